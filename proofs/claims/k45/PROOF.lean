import PyProof.Rows.All
import Wide.All
import OpenK.AllK
import Wide.FinOn
import Lean
import PyProof.EqAt
import PyProof.EqKinds
import PyProof.TupleCall
import PyProof.NeKinds
import PyProof.Rows.SumAny
import PyProof.Rows.Range3
import PyProof.AutoIntG2
import KE.KRevIter
import KE.KSortTup
import PyProof.Rows.StrWeight2
import PyProof.StrCalls
import PyProof.Rows.RuleN_abs
import PyProof.JoinWalk
import PyProof.Rows.StrDigits
import PyProof.StrBlock
import PyProof.StrBlockL
import PyProof.ZipIter
import PyProof.Rows.SetFrom
import PyProof.SetRoads
import PyProof.CollectIter
import PyProof.ForAny
import PyProof.ListRange
import PyProof.ListIndex
import KE.KIntText
import PyProof.Rows.StrNews
import PyProof.StrCalls3
import PyProof.Rows.StrSplit
import PyProof.StrLawsTight
import PyProof.StrWalks
import PyProof.ConsumeWalk
import PyProof.SliceStr2
import PyProof.AttrMiss
import PyProof.FactsAll.zip
import KE.KDictOf
import PyProof.CollectWalk
import PyProof.ListNew
import KE.IntTextText
import PySem.Challenge.RW_sketchbounds_k45_whole_written_in_the_mi
set_option compiler.extract_closed false
local macro_rules|`($x⁻¹)=>`(($x).heap.get?)
local macro_rules|`(~~~$x)=>`(($x).heap.objs.size)
def mB:=@if_neg
def mI:=@if_pos
def mM:=@absurd
def mN:=@congrArg
def mP:=@decide_eq_true
def mS:=@of_decide_eq_true
def xj:=@decide_eq_false
def xk:=@beq_eq_false_iff_ne
abbrev Q1:List PySem.Str:=["one","other"]
abbrev Q2:List PySem.Str:=["self","thing","weight"]
abbrev Q3:List PySem.Str:=["self","room"]
abbrev Q10:List PySem.Str:=["_law_cell"]
abbrev Q11:List PySem.Str:=["thing"]
abbrev Q12:List PySem.Str:=["word","line"]
abbrev Q13:List PySem.Str:=["words","line"]
abbrev Q14:List PySem.Str:=["window"]
abbrev Q15:List PySem.Str:=["self","many"]
abbrev Q16:List PySem.Str:=["keepsake"]
abbrev Q17:List PySem.Str:=["_law_one"]
abbrev Q18:List PySem.Str:=["things","rungs"]
abbrev Q19:List PySem.Str:=["self","stands_for"]
abbrev Q20:List PySem.Str:=["self","room","reach"]
abbrev Q21:List PySem.Str:=["self","room","reach","span"]
abbrev Q22:List PySem.Str:=["_law_cell","_law_factor","_law_prime"]
abbrev Q23:List PySem.Str:=["_law_keepsake","_law_row"]
abbrev Q24:List PySem.Str:=["room","reach","span"]
abbrev Q25:List PySem.Str:=["balance","words","line"]
abbrev Q26:List PySem.Str:=["_law_keepsake","_law_bit"]
abbrev Q27:List PySem.Str:=["_law_script","_law_shape","_law_bits"]
set_option linter.defProp false
open List renaming length_map->aD,mem_cons_self->bY,mem_cons_of_mem->cF,length_append->cu,getElem?_eq_some_iff->dI,getElem?_eq_getElem->eE,mem_singleton->bO,map_append->aR,size_toArray->bG,mem_cons->aP,mem_append->bH,length_cons->cD,getElem?_map->cP,map_cons->cR,pairwise_cons->fW,length_take->eX,map_map->dB,mem_map->dH,append_assoc->iB,getD_eq_getElem?_getD->ug,take_add_one->jg,mem_append_right->oG,nodup_cons->iu,not_mem_nil->jc,take_length->jC,length_reverse->oH,sum_cons->gH,take_of_length_le->uh,replicate->jd,cons_ne_nil->kZ,mem_or_eq_of_mem_set->BW,length->fX,length_set->lA,length_filter_le->xR,getElem?_append_right->Ft,length_eq_zero_iff->BX,filterMap_cons->xT,map_congr_left->xU,length_replicate->BZ,drop_eq_getElem_cons->K8,map_reverse->um,mem_reverse->uo,getElem?_eq_none->Fv,getElem?_append_left->OJ,mem_append_left->yP,filter_append->vh,mem_filter->pG,filter_cons->rO,mem_map_of_mem->yQ,range->gY,flatMap_cons->yR,nodup_nil->rP,pairwise_iff_getElem->O1,getElem_mem->yS,getElem?_set_ne->Ie,pairwise_map->Cz,append_nil->yU,reverse_append->Ig,filter_eq_nil_iff->O2,filterMap_map->Ih,getElem?_zip_eq_some->Xp,replicate_succ'->O3,find?_cons->CG,nodup_append->Ii,length_range->Ij,foldl_cons->CJ,mergeSort_perm->O4,pairwise_mergeSort->Xq,filter_cons_of_neg->Xr,getElem?_cons_succ->Xu,mem_range->CN,getElem?_set_self->Xv,take_append_drop->Xw,getElem?_toArray->Xx,getElem?_reverse->Xy,any_cons->CP,exists_cons_of_ne_nil->adR,pairwise_append->Xz,mem_iff_getElem->XC,mem_of_mem_drop->XD,getElem?_of_mem->XF,getElem?_eq_none_iff->adS,length_drop->O5,cons_append->O6,drop_length->O7,map_eq_nil_iff->XH,flatMap_append->XJ,length_pos_iff->XM,sum_append_nat->XQ,nil_append->O8,filter_cons_of_pos->adT,map_replicate->XR,eraseIdx_append_of_length_le->aj4,eq_getElem_of_length_eq_two->aj5,drop_of_length_le->adU,range_succ_eq_map->adV,lookup->CQ,foldl_append->XS,length_filterMap_eq_countP->aj6,map_nil->Ik,pairwise_reverse->adW,all_eq_true->X4,mem_flatMap->X5,mem_of_mem_take->adX,map_drop->O9,of_mem_zip->X6,sum_append->X7,drop_set_of_lt->adY,take_succ_cons->adZ,forIn_cons->X8,length_eraseIdx_of_lt->aj7,perm_ext_iff_of_nodup->aj8,drop_zero->Yb,take_sublist->ad0,getElem?_replicate->aj9,pairwise_singleton->akb,getLast?_cons_cons->akc,lookup_cons->ad2,length_eq_one_iff->akd,pairwise_lt_range->ake,set_append_right->akf,length_zip->ad3,mem_of_mem_tail->akg,reverse_reverse->akh,filter_eq_self->aki,drop_succ_cons->akj,take_set_of_le->akk,mem_filterMap->akl,map_filterMap->akm,nil_perm->ad4,take_nil->ad5,forIn_toArray->akn,reverse_cons->ako,perm_middle->akp,getElem_map->akq,sum_reverse->akr,length_nil->aks,drop_left->akt,take_zero->aku,all_cons->akv,map_id'->akx,sum_nil->aky,map_id->akz
open PySem renaming wpAny_bind->aA,wpAny_pure->aF,Program->aN,mainGlobals->cV,starEach->cj,Around->aU,wpAny_holding->jD,codeAny_builtin->pH,wpAny_setField_rec->xV,wpAny_seqItems->oK,wpAny_mono->iw,wpAny_call_entry->xW,plainId_quiet->pI,sliceBounds->gZ,wpAny_Call_Name_kw->vm,Builtin->cO,compareOp->fB,wpAny_updateSeq->pJ,SetTable->eY,wpAny_newObj_type->yV,wpAny_field->jL,builtinLookup_eq_fast->Il,wpAny_ite_split->vo,wpAny_callSpecial?_slot->Pa,wpAny_truthy_bool->CT,foldedSetIterable->CV,mem_of_lookup->Im,wpAny_passesOwn->CW,wpAny_pyIter_list->Io,wpAny_setState_of->Ip,fits_of_scanBound->Ir,codeAny->fY,attributeBase->yW,wpAny_setEntries_of->Pb,wpAny_getItem_str_slice->Yc,wpAny_askSetting->Iu,wpAny_rule->pK,wpAny_tryCatch->CZ,intKind->g8,bootBuiltins->yX,codeAny_mono->yZ,wpAny_specialOf->Iv,wpAny_of_eq->vp,typeLookup_type->Iw,wpAny_typeOf->za,sysModules->rQ,wpAny_pyIter_revIter->Yd,wpAny_isInstance->Ph,backTo->fK,pyNext->fM,importedModules->Pj,binaryOp->mZ,tupleKind_room_in1->Ye,wpAny_attempt->Iz,typeLookup->zc,typeIs_str->zf,wpAny_letGo->Dc,wpAny_pyIter_zip->Yg,rawInt->iC,codeAny_call_builtin->ad6,wpAny_newList->Pk,call_meets->Dd,treeTable->zj,wpAny_execs_nil->Yh,letOwnedTupleGo->Yi,keywordEach->IK,relabel->m5,updateSeq->zm,argBest->m6,post_val_or_str->Yj,entryFor->vq,call_reversed_list->ad7,entryFor_alias->Yk,wpAny_newTuple->Yl,setAddHashedIn->Ym,isSubtype_type->Yn,wpAny_fieldsOf->Yo,assignEach->IV,slot_list_getitem->ad8,wpAny_getItem_list_slice->akA,wpAny_Call_method->ad9,wpAny_pyIter_slot->aea,wpAny_comprehension_free->akB,behindInMarks->Yp,Keyword->rR,relayAll->zp,unsupported->Pn,wpAny_eqBool_int->aeb,Result->lC,checkBuiltinCall->aec,wpAny_Call_method_late->akC,tupleKind->IW,swapsWith->Ja,wpAny_nextOf_list_end->akD,bindArgs->Df,wpAny_call->Pq,NameKind->Dg,storeSet->Dh,intItems->Dj,sliceRange->Pr,codeAny_extend_loopS->akE,stored->pL,wpAny_runValue->aed,isSubtype_stop->aee,callType_codes->aef,gives_joinTail->aeg,sizeLine_eq->Yq,evalArgs_none->akF,length_partsBetween->akG,wpAny_standAt->aeh,backToKw->Jb,slicePick->Pu,argsOk->rY,getattributeRaised->akH,call->Yr,holding->Dk,wpAny_assign_Name->akI,valueAt->Dl,callerA->Dm,checkCount->Ys,wpAny_storeSet_of->akJ,setsByText->Yt,wpAny_setEpoch_of->akK,Within->aei,assign->vA,pyIter->vB,seqIndex_neg->aej,wpAny_execs_cons->akL,entryFor_of_tree->akM,getMethod->Yu,BindsTo->Jc,seqIndex_of->aek,subscripted->ael,pickOrder->Yv,codeAny_of_tree->akN,intItems_at->aem,strValues->Yw,am_miss_of_fast->akO,method_meetsIn->akP,firstArgMember->akQ,builtinsNs->aen,wpAny_Name->aeo,wpAny_load->aep,bltViewBooted->akR,intBits_le_64->akS,evalPart_none->akT,call_list_seq->akU,Comprehension->akV,relayAll_perm->akW,relayAll_fits->akX,collect->Px,nums_intItems->akY,ItemsOf->Py,code_list_new->akZ,wpAny_onRaise->ak0,Params->Jd,PassesOwn->aer,cellsFrom->aes,call_meetsIn->ak1,DictEntry->aeu,setAddHashed->ak2,newFields->aev,standAt->Yx,getItem->Yy,newList->Yz,ElemsOf->YB,plainId->YC,isTrue->Pz,layNew->PB,Thread->YD,DefRec->YF
open PySem.W renaming Frag->aH,mg_none_of->pO,mg_of->jh,nsIn->iD,findIn->mH,emptyDict->vC,fnOf->lE,keepIn->rZ,instObj->zu,plainGet->Je,hasDictIn->PJ,kitOne->Jf,plainOver->YG,codeIn->PK,makesIn->YH,plainGet_of->aew,isFn->PL,callWith_K->aex,lookIn->YJ,methodObj->aey,cellsFrom_some->ak3,takerIn->aez,kdu_collect->ak4,WalkO->aeA,specialIn->ak5,handedIn->ak6,kdl_dict->ak7,kat_cons->ak8,kitMeta->ak9,kat_yes->ala,kIn_of->asn,KdlSrc->alb,kat_no->alc
open PySem.Heap renaming get?_push_of_some->cH,get?_push_size->cJ,lt_size->aV,get?_update_other->pP,get?_update_self->uq,size_push->pQ,SameBut->lF,get?_update_ne->ald,IsList->YK,get?_push_ne->ale,ExtBut->alf
open PySem.Str renaming ofString->aW,ofString_eq_toList->alg,join->YL,empty->aeB,length->alh
open Nat renaming le_refl->aK,ne_of_lt->bJ,lt_of_lt_of_le->eZ,zero_le->cg,le_trans->cW,lt_of_le_of_lt->oM,le_of_lt->gK,le_add_right->mJ,lt_or_ge->iy,lt_irrefl->oN,lt_succ_of_lt->zx,mul_le_mul_right->Fw,pow_succ->jy,lt_succ_self->sH,ne_of_gt->jM,zero_add->lG,le_succ->jN,lt_trans->m7,eq_zero_or_pos->Jg,mul_assoc->vD,pow_le_pow_right->PN,strongRecOn->Dp,digitChar->Dq,mul_add->zy,mul_comm->Dr,min_eq_left->PX,lt_add_of_pos_right->aeC,le_succ_of_le->YM,sub_self->Jh,add_le_add_left->aeD,le_of_eq->Qa,add_zero->Qc,le_of_not_lt->aeE,mul_zero->YQ,pow_zero->YS,succ_mul->YT,mul_le_mul_left->ali,lt_trichotomy->alj,succ_pos->aeF,succ_le_succ->alm,not_lt_zero->aln,add_le_add->alo,mul_le_mul->alp,not_lt->aeG,mod_lt->aeH,add_assoc->alq,repr->YW,sub_zero->alr,log2_lt->als
open Option.some renaming inj->bC,injEq->aeI
open Ne renaming symm->aL
open PySem.Challenge renaming rw_sketchbounds_k45_whole_written_in_the_mi->K9,pw_sketchbounds_k45_whole_written_in_the_mi->aso
open Int renaming le_refl->cC,mul_le_mul_of_nonneg_right->Fx,emod_lt_of_pos->sO,mul_le_mul_of_nonneg_left->Qd,emod_nonneg->sS,toNat_of_nonneg->Ji,pow_succ->zA,mul_assoc->Ds,natAbs_mul->Jj,le_trans->Dt,natCast_add->Qe,add_mul->Du,natCast_pow->YX,toNat->zB,fdiv_eq_ediv_of_nonneg->alu,mul_neg_of_neg_of_pos->alv,toNat_natCast->aeJ,le_of_lt->YZ,natCast_mul->aeK,zero_add->Y0,mul_le_mul->aeL,mul_add->Y4,mul_right_comm->alw,natAbs_natCast->alx,dvd_mul_right->aly,mul_comm->aeM,mul_one->aeN,one_mul->aeO,pow_pos->aeP,pow_add->aeQ,le_antisymm->alz,mul_nonneg->alA,not_lt->aeR,add_assoc->alB,dvd_trans->alC,add_zero->alD,ne_of_gt->alE,lt_or_le->alF
open Bool renaming false_ne_true->gM,false_eq_true->Dv,eq_iff_iff->Qf,and_eq_true->Y5,or_eq_true->Y6,and_eq_true_iff->alG,or_false->aeS,and_false->alH,false_or->alI
open Option renaming map_eq_some_iff->lB,isSome_iff_exists->aeT,map_map->Qg,bind_eq_some_iff->alJ,getD_none->aeU,map_some->aeV,isSome_map->alK,mem_toList->alL
open PySem.Builtin.List renaming listExtendWith->xX,listSameRef->Jk,listLengthHint->Qh,listItems->Qi,listTooLong->aeW,listUpdate->alM,listTouch->asp
open Array renaming getElem?_toList->pR,length_toList->qZ,toList_append->Jl,getElem?_eq_some_iff->aeX,toArray_toList->Y7,getElem?_eq_getElem->aeY,toList_inj->Qj,toList_push->Y8,size_push->Y9,perm_iff_toList_perm->alN,size_append->aeZ,getElem?_eq_none->alO,mem_toList_iff->alP,size_replicate->alQ,size_map->alR,toList->alS
open PyProof.Rows renaming callWith_type1->zE,boot_sorted->La,wpS_bind->dZ,wpS_pure->dM,setArr->cT,boot_list->Qk,seqObj->cX,getElem?_mirror_all->Ql,boot_all->Za,wpS_forRange->Dw,pendingOf->sW,boot_sum->ae0,reverseSlice'_eq->Zb,wpS_modify->Dy,entry_list_sort->Zc,SortSt->je,pairsOf_size->Qm,slot_list_sort->Zd,expectedOf->alT,plainGoodE->alU,plainGoodD->alV,subscriptTail->Ze,reverseSlice'->Zf,listUpdate_at->Zg,subscriptTail_builtinR->alW,boot_dict->alX,plain_sorted->Zh,entry_sorted->Zi,boot_max->alY,size_push'->Qn,wpS_mono->Dz,drecsOf->alZ,sortedHeap_old->ae1,args_list_sort->ae2,AllBare->zF,kind_sorted->Zj,mirror_perm->Zk,pairsOf->zH,sortedHeap_at->ae3,failedOf->Jm,boot_reversed->ae4,sortedHeap->Zm,envOfC->vG,callWith_builtin1->asq,args_sorted1->ae5,getElem?_bubble->al0,wpS_get->Jo,seqEpoch_at->ae6,list_sort_tree->al1,pairsOf_toList->al2,Subscript_->ae7,mirror->DG,Constant_bool->al3,sortedAll_old->al4,floordiv_int->al5,sortedAll_at->al6,mem_zip_self->al7,boot_set->asr,boot_abs->asu,boot_str->asv,boot_int->asw,lt_int->asx,tail_any->ae8,wpS_lift->ae9,boot_zip->afa
open PySem.Around renaming under_plainId->q9,under->afb
open PySem.SetTable renaming below->jj,grown->DK,has->Zn,toList_insertAt->asy,slot->al8,fits->al9,probeStart->asz,orStandIn->asA,sizeAbove->asB,freeSlot->asC,insertAt->asD,layClean->asF,advance->asG,standIn->asH,relaid->asI,Probe->asJ,laid->asK,put->asL
open PySem.Obj renaming mapSeq->eO,putSet->Zo
open PySem.Txt renaming join->cZ,split->vH,startswith->Zq,slice_le->Zr,contains->afc,zfill->Zt,slice->Zu
open PySem.Builtin.SmallTypes renaming nextOf->Qo,ownedTupleIsFree->Zv,ownedTupleHandOut->ama
open PySem.F renaming plainAttrs_str->Lb,slot_str_join->Jp,plainAttrs_list->Qp,type_str_join->Zw,slot_list_extend->afd,type_list_extend->afe,plainAttrs_dict->afg,slot_dict_get->afh,slot_dict_values->amb,args_dict_get_3->amc,slot_dict_items->amd,plain_list_iadd->ame,entry_dict_get->amf,slot_str_split->amg,type_str_split->amh
open PySem.Calls renaming spliced_cons->vI,spliced_nil->zJ,call_function_entry->afi,callWith_builtin->afj,evalArgs_plain->afk,Name_function_global->ami
open False renaming elim->jz
open Char renaming toNat->jA
open Prod renaming ext->jO
open Classical renaming choose->Qq,choose_spec->afl,byContradiction->asM
open PySem.SetTable.below renaming go->Zx
open PySem.Builtin.Str renaming glued->Zy,strKind->amj,strSliceIndices->asN,padded->asO
open PySem.Value renaming isInt->Jq,isStrOf->amk
open PySem.Heap.SameBut renaming update->afm,refl->asQ
open PySem.PassesOwn renaming never->Zz
open List.Perm renaming cons_inv->afn,append_left->aml,eq_of_pairwise->asR,refl->asS
open List.cons renaming inj->ZC
open PySem.Builtin.Dict renaming updateFrom->amm,addKeywords->asT,selfAndRest->asU,pairItems->asV
open PySem.Heap.IsList renaming push->afo
open PySem.SeqAt.EqAt renaming same->afp,int_str->amn,str_int->amo,of_refs->amq,none_bool->asW,bool_none->asY,bool_bool->asZ,none_int->as3,none_str->as4,bool_int->as5,bool_str->as6,int_none->as7,int_bool->as8,str_none->as9,str_bool->ata,int_int->atb,str_str->atc
open Array.Perm renaming refl->afq
open PySem.SeqAt renaming EqAt->Qs
open PySem.W.Fast renaming te9446332074065402090->atd
open Prod.mk renaming injEq->afr
open PySem.Paired renaming length->afs,snoc->amr
open PySem.Heap.IsSliceOf renaming new->ams
open List.Nodup renaming sublist->amt
open PySem.AutoSeq1 renaming list_extend_list_list_0->ate
open PySem.SetTable.probe renaming go->amu
open PySem.Walks renaming list->ZD
open PySem.SeqAt.RcAt renaming tuples->amv,lists->amw,lists_lengths->atf
open PySem.Code renaming isFrame->aft,frames->amx
open List.Sublist renaming map->amy
open PySem.Builtin.Frozenset renaming updateFrom->atg,newClass->ath,sizeOf->ati
open Eq renaming trans->Qt
open PySem.Heap.DictOf renaming new->amz
open PySem.Builtin.Builtins renaming bindParams->atj
open PySem.Shared renaming heap->afu,TypeIs->amA
open PySem.EqNone renaming eq_none_none->atk,eq_none_bool->atl,eq_bool_none->atm,ne_none_none->atn,ne_none_bool->ato,ne_bool_none->atp,eq_none_int->atq,eq_none_str->atr,eq_int_none->atu,eq_str_none->atv,ne_none_int->atw,ne_none_str->atx,ne_int_none->aty,ne_str_none->atz
open PySem.EqMixed renaming eq_bool_str->atA,eq_str_bool->atB,ne_bool_str->atD,ne_str_bool->atE,eq_int_str->atF,eq_str_int->atG,ne_int_str->atH,ne_str_int->atJ
open PySem.Bind renaming checkArgs->amB
open PySem.SetTable.Met.empty renaming injEq->atL
open List.Pairwise renaming imp_of_mem->atM,filterMap->atN,of_map->atO
open PySem.Builtin.Range renaming rangeSize->atP
open PySem.W.KIN renaming call_text->atQ
open Nat.succ renaming inj->amC
open PySem.MeetsSeq renaming list_pop_at->atR
open PySem.W.KatTups renaming cons->atU,nil->atV
open Sum.inl renaming inj->amD
open PySem.ItemsOf renaming nil->amE
open PySem.SeqAt.RcNeAt renaming tuples->atX,lists->atY
open PySem.SC renaming startswith->atZ,zfill->at3
open PySem.W.Looks renaming here->at4
open PySem.Within renaming cons->at5
open PySem.Heap.Ns1 renaming of_empty->at6
open PyProof.Rows.SortSt renaming mk'->amF
open PySem.DictEntry renaming refKey->at7
open PySem.IsL renaming update->at8
set_option hygiene false
local macro_rules | `(term| tb_g%) => `(by first | decide +kernel | lia | exact hr.mono (by decide) | exact hu_of hr | exact mS rfl|walk_at "sc")
local macro_rules | `(tactic| k_dat ($x0:ident,$x1:ident) "a") => `(tactic| (extract_lets +onlyGivenNames -underBinder -merge $x0:ident;clear_value ($x1:ident :$x0:ident =_)))
local macro_rules | `(tactic| walk_at "b") => `(tactic| (intro X hP hw hK hc i pins s σ H E I hf st hg))
local macro_rules | `(tactic| k_dat $x0:ident "d") => `(tactic| (obtain ⟨f0,f1,f2,f3,f4,f5⟩:=hf $x0:ident (by simp)))
local macro_rules | `(tactic| walk_at "e") => `(tactic| (rcases bH.mp m with m | m))
local macro_rules | `(tactic| k_dat ($x0:ident,$x1:ident) "g") => `(tactic| (intro pins s σ H $x0:ident I $x1:ident))
local macro_rules | `(tactic| k_dat ($x0:ident,$x1:ident,$x2:ident) "i") => `(tactic| (intro pins s σ H x $x0:ident v $x1:ident Q I rx $x2:ident h))
local macro_rules | `(tactic| k_dat $x0 "j") => `(tactic| (have sG2:=qY (sG.trans sJ) (fr _ (mv (i:=$x0:term) rfl)) bF))
local macro_rules | `(tactic| k_dat ($x0,$x1:ident,$x2,$x3) "k") => `(tactic| (refine ⟨_,rfl,p,_,$x0:term,_,rfl,$x1:ident,$x2:term,$x3:term,tb_g%,?_⟩))
local macro_rules | `(tactic| walk_at "l") => `(tactic| (intro pins s σ H xs us Q I r h))
local macro_rules | `(tactic| walk_at "m") => `(tactic| (rcases aP.mp m with rfl | m))
local macro_rules | `(tactic| k_dat ($x0,$x1:ident) "o") => `(tactic| (refine ⟨_,rfl,_,_,rfl,rfl,(by show (0:Int)<$x0:term;decide),rfl,_,rfl,dh (fun $x1:ident =>?_) (fun $x1:ident =>?_)⟩))
local macro_rules | `(tactic| k_dat ($x0,$x1:ident,$x2,$x3) "q") => `(tactic| (refine ⟨_,rfl,rdG $x0:term ($x1:ident T) ⟨_,rfl,_,_,rfl,rfl,_,rfl,p,_,dx,_,rfl,$x0:term,$x2:term,$x3:term,tb_g%,?_⟩⟩))
local macro_rules | `(tactic| k_dat ($x0,$x1:ident,$x2) "r") => `(tactic| (refine ⟨_,rfl,rdG $x0:term ($x1:ident T) ⟨_,rfl,rdG $x2:term ($x1:ident T) ⟨rfl,_,rfl,yg rfl ?_⟩⟩⟩))
local macro_rules | `(tactic| walk_at "s") => `(tactic| (obtain ⟨x,H1,I1,r1,q1⟩:=zq))
local macro_rules | `(tactic| walk_at "t") => `(tactic| (refine ⟨_,by k_dat ([],[],[]) "p",?_⟩))
local macro_rules | `(tactic| k_dat $x0 "u") => `(tactic| (show wpAny _ _ (field (.ref _) $x0:term >>= _) _ _ _))
local macro_rules | `(tactic| k_dat ($x0:ident,$x1:ident,$x2:ident) "v") => `(tactic| (refine $x0:ident (thn ($x1:ident pins s σ H _ I h) fun $x2:ident s1 zq=>?_)))
local macro_rules | `(tactic| k_dat ($x0:ident,$x1:ident,$x2:ident,$x3:ident) "w") => `(tactic| (obtain ⟨$x0:ident,rfl⟩:=(show ∃ t,$x1:ident =Value.str $x2:ident t from $x3:ident)))
local macro_rules | `(tactic| walk_at "x") => `(tactic| (obtain ⟨u,rfl,ru⟩:=vals1 r))
local macro_rules | `(tactic| k_dat ($x0:ident,$x1:ident) "y") => `(tactic| (obtain ⟨$x0:ident,rfl⟩:=$x1:ident))
local macro_rules | `(tactic| k_dat ($x0:ident,$x1:ident,$x2,$x3:ident) "z") => `(tactic| (obtain ⟨$x0:ident,$x1:ident,rfl⟩:=$x2:term $x3:ident))
set_option hygiene true
set_option maxRecDepth 100000
set_option maxHeartbeats 0
theorem mv{a:α}{l:List α}{i:Nat}(h:l[i]? = some a):a∈l:=List.mem_of_getElem? h
local macro_rules|`(tactic|show #[$x,*])=>`(tactic|refine ⟨$x,*⟩)
local macro_rules|`(#[$x,*])=>if x.getElems.isEmpty then Lean.Macro.throwUnsupported else `(⟨$x,*⟩)
namespace L2
open PySem
def inClass(s:Stmt)(j:Nat):Stmt:=match s with
 | .ClassDef _ _ _ body _ _ _ _ _ _ _=>body.getD j (.Pass #[0,0,0,0])
 |_=>.Pass #[0,0,0,0]
def jP(s:Stmt):Arguments:=match s with
 | .FunctionDef _ a _ _ _ _ _ _ _ _=>a
 |_=>{ posonlyargs:=[],args:=[],vararg:=none,kwonlyargs:=[],kw_defaults:=[],kwarg:=none,defaults:=[] }
def jr(s:Stmt):List Stmt:=match s with
 | .FunctionDef _ _ b _ _ _ _ _ _ _=>b
 |_=>[]
def aq(s:Stmt):Scope:=match s with
 | .FunctionDef _ _ _ _ _ _ sc _ _ _=>sc
 |_=>{ kind:=.function,names:=[],isGenerator:=false,isCoroutine:=false }
end L2
namespace My
open PySem PySem.W PyProof.Rows
def rm(tb:String->Option cO)(p:aN)(w:World)(n₀:Nat)(ann:Option Value):Nat->SharedT->YD->Option SharedT
 |0,_,_=>none
 |n+1,s,t=>match through t with
  |true=>some s
  |false=>match stepOk n₀ ann t with
   |false=>none
   |true=>match stepT (denote tb) p w s t with
    |some (s',t')=>rm tb p w n₀ ann n s' t'
    |none=>none
theorem Qu:∀{n:Nat}{s s':SharedT}{t:YD},rm tb p w n₀ ann n s t=some s'->topRun tb p w n₀ ann n s.abs t=some s'.abs
 |0,_,_,_,h=>by cases h
 |n+1,s,s',t,h=>by
  unfold rm at h;unfold topRun;cases ht:through t with
  |true =>
   rw[ht]at h;obtain rfl:=bC h;rfl
  |false =>
   rw[ht]at h;dsimp only at h ⊢;cases hs:stepOk n₀ ann t with
   |false=>rw[hs]at h;cases h
   |true =>
    rw[hs]at h;dsimp only at h ⊢;cases hq:stepT (denote tb) p w s t with
    |none=>rw[hq]at h;cases h
    |some x =>
     obtain⟨s2,t2⟩:=x;rw[hq]at h;rw[stepT_spec hq];exact Qu h
def treeOf:List Obj->Nat->BT->Option BT
 |[],_,t=>some t
 |o::r,n,t=>match ((t.ins n o).get n).isSome with
  |true=>treeOf r (n+1) (t.ins n o)
  |false=>none
theorem V1:∀{l:List Obj}{n:Nat}{t t':BT},treeOf l n t=some t'->absHeap t' (n+l.length) life=#[((t.list n)++l).toArray,life]
 |[],n,t,t',h=>by
  obtain rfl:=bC h;rw[yU];rfl
 |o::r,n,t,t',h=>by
  unfold treeOf at h;cases g:((t.ins n o).get n).isSome with
  |false=>rw[g]at h;cases h
  |true =>
   rw[g]at h;have e:=V1 (life:=life) h;rw[show n+(o::r).length=n+1+r.length by rw[cD];lia,e];have e2:=absHeap_ins (life:=life) g;have e3:(t.ins n o).list (n+1)=t.list n++[o]:=by
    have:=mN (fun h:Heap=>h.objs.toList) e2;simpa[absHeap,Heap.push]using this
   rw[e3,iB];rfl
def ZF(h:Heap):Option BT:=treeOf h.objs.toList 0 .nil
theorem aiB(e:ZF h=some T):absHeap T h.objs.size h.life=h:=by
 have:=V1 (life:=h.life) e;rw[lG,qZ]at this;rw[this];show Heap.mk (([]++h.objs.toList).toArray) h.life=h;rw[O8]
def aiC(p:aN)(w:World)(N:Nat):Option (Shared × SharedT):=(fencedOpening zj p w N).bind fun s₀ =>
 match s₀.heap.isNs cV && s₀.gens.size == 0 with
 |true=>(ZF s₀.heap).bind fun T=>(rm zj p w (~~~s₀) (s₀.heap.nsMap cV "__annotations__") N #[T,~~~s₀,s₀.heap.life,s₀.gens,s₀.drawn,s₀.toks,s₀.os] (topStub p)).map fun s₁=>(s₀,s₁)
 |false=>none
def okT(p:aN)(x:Shared × SharedT):Bool:=staticsOk (Pj p.main.body) x.1.heap x.2.abs.heap && namesBound p x.2.abs.heap && gensDone x.2.abs && laidKept x.1.heap x.2.abs.heap
abbrev Jr(p q:aN)(Xt:Shared->Bool)(x:Shared × SharedT):=openSeen q [] (Pj p.main.body) Xt true x.2.abs
theorem apL(h:aiC p w N=some x)(ok:okT p x=true):openEnds zj p w N=some x.2.abs:=by
 unfold aiC at h;obtain⟨s₀,e0,e1⟩:=alJ.mp h;unfold openEnds;rw[e0];show topFrom zj p w N s₀=_;unfold topFrom;cases g:(s₀.heap.isNs cV && s₀.gens.size == 0)with
 |false=>rw[g]at e1;cases e1
 |true =>
  rw[g]at e1;dsimp only at e1 ⊢;obtain⟨T,eT,e2⟩:=alJ.mp e1;obtain⟨s₁,e3,e4⟩:=lB.mp e2;subst e4;have r:=Qu e3;have ab:(SharedT.mk T (~~~s₀) s₀.heap.life s₀.gens s₀.drawn s₀.toks s₀.os).abs=s₀:=by
   show Shared.mk (absHeap T (~~~s₀) s₀.heap.life) _ _ _ _=s₀;rw[aiB eT]
  rw[ab]at r;rw[r]
  show (match staticsOk (Pj p.main.body) s₀.heap s₁.abs.heap && namesBound p s₁.abs.heap && gensDone s₁.abs && laidKept s₀.heap s₁.abs.heap with
   |true=>some s₁.abs
   | false=>none)=_
  have ok':(staticsOk (Pj p.main.body) s₀.heap s₁.abs.heap && namesBound p s₁.abs.heap && gensDone s₁.abs && laidKept s₀.heap s₁.abs.heap)=true:=ok;rw[ok']
def Look(p:aN)(N:Nat){β:Type}(f:Shared × SharedT->β)(b:World->β):Prop:=∀w:World,(aiC p w N).map f=some (b w)
theorem Look.at{p:aN}{N:Nat}{β:Type}{f:Shared × SharedT->β}{b:World->β}(h:Look p N f b){w:World}{x:Shared × SharedT}(e:aiC p w N=some x):f x=b w:=by
 have:=h w;rw[e]at this;exact bC this
theorem apM{p q:aN}{Xt:Shared->Bool}{α:Type}{Yf:Shared->α}{Ya:World->α}{N:Nat}
  (h0:Look p N (okT p) fun _=>true)
  (h1:Look p N (fun x=>(Jr p q Xt x).1) fun _=>(openGood q []).1)
  (h2:Look p N (fun x=>(Jr p q Xt x).2.1) fun _=>(openGood q []).2.1)
  (h3:Look p N (fun x=>(Jr p q Xt x).2.2.1) fun _=>(openGood q []).2.2.1)
  (h4:Look p N (fun x=>(Jr p q Xt x).2.2.2.1) fun _=>(openGood q []).2.2.2.1)
  (h5:Look p N (fun x=>(Jr p q Xt x).2.2.2.2.1) fun _=>(openGood q []).2.2.2.2.1)
  (h6:Look p N (fun x=>(Jr p q Xt x).2.2.2.2.2.1) fun _=>(openGood q []).2.2.2.2.2.1)
  (h7:Look p N (fun x=>(Jr p q Xt x).2.2.2.2.2.2.1) fun _=>(openGood q []).2.2.2.2.2.2.1)
  (h8:Look p N (fun x=>(Jr p q Xt x).2.2.2.2.2.2.2.1) fun _=>(openGood q []).2.2.2.2.2.2.2.1)
  (h9:Look p N (fun x=>(Jr p q Xt x).2.2.2.2.2.2.2.2) fun _=>(openGood q []).2.2.2.2.2.2.2.2)
  (hY:Look p N (fun x=>Yf x.2.abs) Ya):LeftO p q [] Xt Yf Ya N:=fun w=>by
 obtain⟨x,e,_⟩:=lB.mp (h0 w);show(openEnds zj p w N).map _=_;rw[apL e (h0.at e)];show some (Jr p q Xt x,Yf x.2.abs)=some (openGood q [],Ya w);have a:=hY.at e;have b:Jr p q Xt x=openGood q []:=jO (h1.at e) (jO (h2.at e) (jO (h3.at e) (jO (h4.at e) (jO (h5.at e) (jO (h6.at e) (jO (h7.at e) (jO (h8.at e) (h9.at e))))))));rw[b];exact mN some (jO rfl a)
def amG(s:SharedT):List Addr->Option (List (Option Obj))
 |[]=>some []
 |a::r=>match Nat.blt a s.n with
  |true=>match s.tree.get a with
   |some o=>match amG s r with
    |some l=>some (alive o::l)
    |none=>none
   |none=>none
  |false=>none
theorem ahn:∀{as:List Addr} {l:List (Option Obj)},amG s as=some l->as.map s.abs.heap.get? = l
 |[],l,h=>bC h
 |a::r,l,h=>by
  unfold amG at h;cases hb:Nat.blt a s.n with
  |false=>rw[hb]at h;cases h
  |true =>
   rw[hb]at h;dsimp only at h;cases ho:s.tree.get a with
   |none=>rw[ho]at h;cases h
   |some o =>
    rw[ho]at h;dsimp only at h;cases hl:amG s r with
    |none=>rw[hl]at h;cases h
    |some l2 =>
     rw[hl]at h;obtain rfl:=bC h;rw[cR,ahn hl];exact mN (· :: l2) (abs_get (Nat.le_of_ble_eq_true hb) ho)
open PySem.W.Fast renaming tw10156331382660048174->arF, te10156331382660048174->amH, tw6613529449190102663->aho, te6613529449190102663->afv, tw11892475500146522536->ahp, te11892475500146522536->afw, tw14364793385576792824->amI, te14364793385576792824->V2, tw4187177175401517315->aiD, te4187177175401517315->ZG
noncomputable def amJ(w:World)(os:OsState):Shared:=#[boot_heap w.params,Array.mk [],boot_drawn,boot_toks,os]
noncomputable def ahq(p:aN)(w:World)(N:Nat)(s₀:Shared):Option (Shared × SharedT):=(ZF s₀.heap).bind fun T=>(rm zj p w (~~~s₀) (s₀.heap.nsMap cV "__annotations__") N #[T,~~~s₀,s₀.heap.life,s₀.gens,s₀.drawn,s₀.toks,s₀.os] (topStub p)).map fun s₁=>(s₀,s₁)
theorem apO(P:Jd):(boot_heap P).isNs cV=true:=by kernel_rfl
theorem aiE{p:aN}{N:Nat}(e:opening p=plainProg p.main.scope.names)(hN:Nat.ble 600 N=true)(f:∀s,fenceModules? p s=some s)(w:World):∃os,aiC p w N=ahq p w N (amJ w os):=by
 obtain⟨s,hs,hv⟩:=lB.mp (boot_open e hN f w);obtain⟨h,g,d,k,os⟩:=s;simp only[afr]at hv;obtain⟨rfl,rfl,rfl,rfl⟩:=hv;refine⟨os,?_⟩;unfold aiC;rw[hs];show(match (boot_heap w.params).isNs cV && _ with|true=>ahq p w N (amJ w os)|false=>none)=_;rw[apO];rfl
noncomputable def Fy(p:aN)(w:World)(n₀:Nat)(ann:Option Value):Nat->SharedT->YD->Option SharedT
 |0,_,_=>none
 |n+1,s,t=>match through t with
  |true=>some s
  |false=>match aho n₀ ann t with
   |false=>none
   |true=>match arF (ahp amI) p w s t with
    |some (s',t')=>Fy p w n₀ ann n s' t'
    |none=>none
theorem Qv:∀{n:Nat}{s:SharedT}{t:YD},rm zj p w n₀ ann n s t=Fy p w n₀ ann n s t
 |0,_,_=>rfl
 |n+1,s,t=>by
  have ih:∀s t,rm zj p w n₀ ann n s t=Fy p w n₀ ann n s t:=fun _ _=>Qv;rw[V2]at ih;unfold rm Fy;rw[afv,amH,afw,V2];cases through t with
  |true=>rfl
  |false =>
   dsimp only;cases aho n₀ ann t with
   |false=>rfl
   |true =>
    dsimp only;cases arF (ahp amI) p w s t with
    |none=>rfl
    |some x=>exact ih _ _
noncomputable def amK(p:aN)(w:World)(N:Nat)(s₀:Shared):Option (Shared × SharedT):=(ZF s₀.heap).bind fun T=>(Fy p w (~~~s₀) (s₀.heap.nsMap cV "__annotations__") N #[T,~~~s₀,s₀.heap.life,s₀.gens,s₀.drawn,s₀.toks,s₀.os] (topStub p)).map fun s₁=>(s₀,s₁)
theorem amL:ahq p w N s₀=amK p w N s₀:=by
 unfold ahq amK;exact mN _ (funext fun T=>mN _ Qv)
def iG(p:aN)(N:Nat){β:Type}(f:Shared × SharedT->β)(b:World->β):Prop:=∀w os,(amK p w N (amJ w os)).map f=some (b w)
noncomputable abbrev ux(p q:aN)(Xt:Shared->Bool)(x:Shared × SharedT):=aiD q [] (Pj p.main.body) Xt true x.2.abs
theorem apP:Jr p q Xt=ux p q Xt:=by
 funext x
 unfold Jr ux;rw[ZG]
structure Plain(p:aN)(N:Nat):Prop where
 op:opening p=plainProg p.main.scope.names
 n:Nat.ble 600 N=true
 fe:∀s,fenceModules? p s=some s
theorem iG.look{p:aN}{N:Nat}{β:Type}{f:Shared × SharedT->β}{b:World->β}(h:iG p N f b)(P:Plain p N):Look p N f b:=fun w=>by
 obtain⟨os,e⟩:=aiE P.op P.n P.fe w;rw[e,amL];exact h w os
theorem amM(P:Plain p N)
  (h0:iG p N (okT p) fun _=>true)
  (h1:iG p N (fun x=>(ux p q Xt x).1) fun _=>alT q)
  (h2:iG p N (fun x=>(ux p q Xt x).2.1) fun _=>akR)
  (h3:iG p N (fun x=>(ux p q Xt x).2.2.1) fun _=>true)
  (h4:iG p N (fun x=>(ux p q Xt x).2.2.2.1) fun _=>true)
  (h5:iG p N (fun x=>(ux p q Xt x).2.2.2.2.1) fun _=>pinGoodD (alZ q))
  (h6:iG p N (fun x=>(ux p q Xt x).2.2.2.2.2.1) fun _=>alU q (looseW q []))
  (h7:iG p N (fun x=>(ux p q Xt x).2.2.2.2.2.2.1) fun _=>alV q [])
  (h8:iG p N (fun x=>(ux p q Xt x).2.2.2.2.2.2.2.1) fun _=>wideGood q)
  (h9:iG p N (fun x=>(ux p q Xt x).2.2.2.2.2.2.2.2) fun _=>clsGoodW q [])
  (hY:iG p N (fun x=>amG x.2 as) fun w=>some (Ya w)):LeftO p q [] Xt (fun s=>as.map s⁻¹) Ya N:=by
 rw[<-apP]at h1 h2 h3 h4 h5 h6 h7 h8 h9;refine apM (h0.look P) (h1.look P) (h2.look P) (h3.look P) (h4.look P) (h5.look P) (h6.look P) (h7.look P) (h8.look P) (h9.look P) fun w=>?_;obtain⟨x,e,_⟩:=lB.mp (h0.look P w);rw[e];exact mN some (ahn ((hY.look P).at e))
end My
namespace My
open PySem L2
def top(i:Nat):Stmt:=aso.main.body.getD i (.Pass #[0,0,0,0])
abbrev vJ:Stmt:=top 29
abbrev sX:Stmt:=top 30
abbrev ZJ:Stmt:=top 31
abbrev vK:Stmt:=inClass (top 26) 3
abbrev pU:Stmt:=inClass (top 26) 2
abbrev Js:Stmt:=top 28
abbrev Qw:Stmt:=top 27
abbrev vL:Stmt:=inClass (top 26) 0
abbrev zK:Stmt:=inClass (top 26) 1
abbrev Qx:Stmt:=top 36
abbrev sY:Stmt:=inClass (top 35) 0
abbrev m8:Stmt:=inClass (top 35) 3
abbrev vM:Stmt:=inClass (top 35) 1
abbrev sZ:Stmt:=inClass (top 35) 2
abbrev Qy:Stmt:=top 14
abbrev afx:Stmt:=top 15
abbrev m9:Stmt:=inClass (top 17) 0
abbrev DN:Stmt:=top 18
abbrev jQ:Stmt:=inClass (top 17) 2
abbrev pW:Stmt:=inClass (top 17) 1
abbrev ni:Stmt:=inClass (top 21) 0
abbrev Qz:Stmt:=top 22
abbrev Jt:Stmt:=top 23
abbrev pY:Stmt:=inClass (top 21) 2
abbrev pZ:Stmt:=inClass (top 21) 1
abbrev DQ:Stmt:=top 8
abbrev p8:Stmt:=inClass (top 7) 0
abbrev tu:Stmt:=inClass (top 7) 1
abbrev qe:Stmt:=inClass (top 7) 2
abbrev qg:Stmt:=inClass (top 39) 1
abbrev nA:Stmt:=inClass (top 39) 2
abbrev nF:Stmt:=inClass (top 39) 3
abbrev nH:Stmt:=inClass (top 39) 0
abbrev ZL:Stmt:=top 87
abbrev vN:Stmt:=top 88
abbrev vO:Stmt:=top 89
abbrev tD:Stmt:=top 90
abbrev DR:Stmt:=top 91
abbrev vP:Stmt:=top 96
abbrev QB:Stmt:=top 92
abbrev jR:Stmt:=top 24
abbrev Ju:Stmt:=top 32
abbrev qj:Stmt:=top 33
abbrev DW:Stmt:=top 37
abbrev lH:Stmt:=top 9
abbrev jT:Stmt:=top 19
abbrev vQ:Stmt:=top 40
abbrev QC:Stmt:=top 41
abbrev Jv:Stmt:=top 85
abbrev s_row:Stmt:=top 84
abbrev ql:Stmt:=top 83
abbrev tE:Stmt:=top 82
abbrev lJ:Stmt:=top 81
abbrev Jw:Stmt:=top 80
abbrev vR:Stmt:=top 93
abbrev Jx:Stmt:=top 94
abbrev Jy:Stmt:=top 95
abbrev afy:Stmt:=top 61
abbrev zL:Stmt:=top 63
abbrev vU:Stmt:=top 62
abbrev qm:Stmt:=top 48
abbrev zM:Stmt:=top 64
abbrev DX:Stmt:=top 68
abbrev zN:Stmt:=top 69
abbrev QD:Stmt:=top 73
abbrev nJ:Stmt:=top 50
abbrev lK:Stmt:=top 49
abbrev jU:Stmt:=top 52
abbrev vV:Stmt:=top 53
abbrev tG:Stmt:=top 51
abbrev qp:Stmt:=top 55
abbrev vX:Stmt:=top 56
abbrev qt:Stmt:=top 54
abbrev lM:Stmt:=top 57
abbrev zO:Stmt:=top 70
abbrev nM:Stmt:=top 71
abbrev vY:Stmt:=top 72
abbrev tH:Stmt:=top 74
abbrev nO:Stmt:=top 75
abbrev zP:Stmt:=top 76
abbrev nQ:Stmt:=top 67
abbrev DY:Stmt:=top 97
abbrev Jz:Stmt:=top 98
abbrev zQ:Stmt:=top 99
abbrev amN:Stmt:=top 100
def LK(K:aH)(n q:Str)(s:Stmt)(f:Addr):Prop:=∃oc od an sl kV dc pm cd ct,K.lookup f=some #[oc,od,.func (lE n q (jP s) (jr s) (aq s) .none kV dc pm an cd ct),sl]/\PK K cd q=true/\rZ K (.ref f)=true
def GK(K:aH)(n:Str)(s:Stmt)(f:Addr):Prop:=iD K cV n=some (some (.ref f))/\LK K n n s f
def MeK(K:aH)(C:Addr)(n q:Str)(s:Stmt)(f:Addr):Prop:=mH K (.ref C) n=some (some (.ref f))/\PL K (.ref f)=true/\LK K n q s f
def CK(K:aH)(C:Addr):Prop:=Je K C aeB=true/\PJ K C=true/\YG K C=true/\mH K (.ref C) "__setattr__" = some (some (.builtin "object.__setattr__"))/\YH K C=true/\rZ K (.ref C)=true
def NK(K:aH)(C:Addr):List Str->Prop
 |[]=>True
 |f::r=>mH K (.ref C) f=some none/\NK K C r
def ZK(K:aH):List Str->Prop
 |[]=>True
 |n::r=>iD K cV n=some none/\ZK K r
def GKs(K:aH):List (Str × Stmt)->Prop
 |[]=>True
 |p::r=>(∃f,GK K p.1 p.2 f)/\GKs K r
def MKs(K:aH)(C:Addr):List (Str × Str × Stmt)->Prop
 |[]=>True
 |p::r=>(∃f,MeK K C p.1 p.2.1 p.2.2 f)/\MKs K C r
theorem GKs.nil{K:aH}:GKs K []:=trivial
theorem GKs.cons{K:aH}{n:Str}{s:Stmt}{r:List (Str × Stmt)}{f:Addr}(a:GK K n s f)(b:GKs K r):GKs K ((n,s)::r):=#[#[f,a],b]
theorem MKs.nil{K:aH}:MKs K C []:=trivial
theorem MKs.cons{K:aH}{C:Addr}{n q:Str}{s:Stmt}{r:List (Str × Str × Stmt)}{f:Addr}(a:MeK K C n q s f)(b:MKs K C r):MKs K C ((n,q,s)::r):=#[#[f,a],b]
theorem LK.of{K:aH}{kV dc pm cd ct:Value}(l:K.lookup f=some #[oc,od,.func (lE n q (jP s) (jr s) (aq s) .none kV dc pm an cd ct),sl])(c:PK K cd q=true)(k:rZ K (.ref f)=true):LK K n q s f:=#[oc,od,an,sl,kV,dc,pm,cd,ct,l,c,k]
theorem GK.of{K:aH}(a:iD K cV n=some (some (.ref f)))(l:LK K n n s f):GK K n s f:=#[a,l]
theorem MeK.of{K:aH}(a:mH K (.ref C) n=some (some (.ref f)))(i:PL K (.ref f)=true)(l:LK K n q s f):MeK K C n q s f:=#[a,i,l]
theorem CK.of{K:aH}(a:Je K C aeB=true)(b:PJ K C=true)(c:YG K C=true)(d:mH K (.ref C) "__setattr__" = some (some (.builtin "object.__setattr__")))(e:YH K C=true)(f:rZ K (.ref C)=true):CK K C:=#[a,b,c,d,e,f]
theorem NK.nil{K:aH}:NK K C []:=trivial
theorem NK.cons{K:aH}{C:Addr}{f:Str}{r:List Str}(a:mH K (.ref C) f=some none)(b:NK K C r):NK K C (f::r):=#[a,b]
theorem ZK.nil{K:aH}:ZK K []:=trivial
theorem ZK.cons{K:aH}{f:Str}{r:List Str}(a:iD K cV f=some none)(b:ZK K r):ZK K (f::r):=#[a,b]
abbrev dX:PySem.W.OpenRow:=K9.row
def view:PySem.Program:={ dX.prog with main:={ dX.prog.main with body:=[top 0,top 2,top 3,top 4,top 5,top 7,top 8,top 9,top 11,top 12,top 13,top 14,top 15,top 17,top 18,top 19,top 21,top 22,top 23,top 24,top 26,top 27,top 28,top 29,top 30,top 31,top 32,top 33,top 35,top 36,top 37,top 39,top 40,top 41,top 43,top 44,top 45,top 46,top 47,top 48,top 49,top 50,top 51,top 52,top 53,top 54,top 55,top 56,top 57,top 59,top 60,top 61,top 62,top 63,top 64,top 66,top 67,top 68,top 69,top 70,top 71,top 72,top 73,top 74,top 75,top 76,top 78,top 79,top 80,top 81,top 82,top 83,top 84,top 85,top 87,top 88,top 89,top 90,top 91,top 92,top 93,top 94,top 95,top 96,top 97,top 98,top 99,top 100] } }
abbrev Ca:Shared->Bool:=fun s=>PySem.W.xlAt view [] s && PySem.W.recOk dX.records s
theorem seeP:Plain dX.prog 20000:=#[by kernel_rfl,by kernel_rfl,by intro s;kernel_rfl]
theorem seeW:K9.wellSaid=true:=by
 rw[atd]
 kernel_rfl
theorem see0:iG dX.prog 20000 (okT dX.prog) (fun _=>true):=by intro w os;kernel_rfl
theorem see1:iG dX.prog 20000 (fun x=>(ux dX.prog view Ca x).1) (fun _=>alT view):=by intro w os;kernel_rfl
theorem see2:iG dX.prog 20000 (fun x=>(ux dX.prog view Ca x).2.1) (fun _=>akR):=by intro w os;kernel_rfl
theorem see3:iG dX.prog 20000 (fun x=>(ux dX.prog view Ca x).2.2.1) (fun _=>true):=by intro w os;kernel_rfl
theorem see4:iG dX.prog 20000 (fun x=>(ux dX.prog view Ca x).2.2.2.1) (fun _=>true):=by intro w os;kernel_rfl
theorem see5:iG dX.prog 20000 (fun x=>(ux dX.prog view Ca x).2.2.2.2.1) (fun _=>pinGoodD (alZ view)):=by intro w os;kernel_rfl
theorem see6:iG dX.prog 20000 (fun x=>(ux dX.prog view Ca x).2.2.2.2.2.1) (fun _=>alU view (PySem.W.looseW view [])):=by intro w os;kernel_rfl
theorem see7:iG dX.prog 20000 (fun x=>(ux dX.prog view Ca x).2.2.2.2.2.2.1) (fun _=>alV view []):=by intro w os;kernel_rfl
theorem see8:iG dX.prog 20000 (fun x=>(ux dX.prog view Ca x).2.2.2.2.2.2.2.1) (fun _=>PySem.W.wideGood view):=by intro w os;kernel_rfl
theorem see9:iG dX.prog 20000 (fun x=>(ux dX.prog view Ca x).2.2.2.2.2.2.2.2) (fun _=>PySem.W.clsGoodW view []):=by intro w os;kernel_rfl
def amO(R:World->aH->(Str->Option Value)->Addr->Prop):Prop:=∀{w:World}{K:aH}{h:Heap}{mg:Str->Option Value}{fa C'0 C'1 C'2 C'3 C'4 C'5:Addr}(X:K.In h)(G:h.Ns cV mg) (hfa:mg "law" = some (.ref fa))
(aC'0:iD K cV "Rungs" = some (some (.ref C'0))) (zR:CK K C'0) (Fz:NK K C'0 ["room","total","over","under","turns","least","most","rungs"]) (aC'1:iD K cV "Window" = some (some (.ref C'1))) (uy:CK K C'1) (Bf:NK K C'1 ["room","reach","clock","boxes"]) (aC'2:iD K cV "Distinct" = some (some (.ref C'2))) (mK:CK K C'2) (rA:NK K C'2 ["room","arrivals","level","kept"]) (aC'3:iD K cV "Frequent" = some (some (.ref C'3))) (mL:CK K C'3) (rB:NK K C'3 ["room","total","lost","counts"]) (aC'4:iD K cV "Balance" = some (some (.ref C'4))) (qu:CK K C'4) (vZ:NK K C'4 ["span","sums"]) (aC'5:iD K cV "Keepsake" = some (some (.ref C'5))) (mO:CK K C'5) (rC:NK K C'5 ["room","reach","span","came","went","up","down","window","seen","balance"]) (gk0:GKs K [("with_thing",vJ),("left_behind",sX),("risen",ZJ),("greater",Js),("lesser",Qw),("joined",Qx),("spread",Qy),("mark",afx),("of_marks",DN),("cut_of",Qz),("lowered",Jt),("with_row",DQ),("_law_mix",ZL),("_law_far_back",vN),("_law_thing_by",vO),("_law_weight_by",tD),("_law_row_by",DR),("_law_shape_by",vP),("_law_done",QB),("poured_frequent",jR),("list_at",Ju),("poured_rungs",qj),("followed",DW),("poured_balance",lH),("poured_distinct",jT),("empty_like",vQ),("poured",QC),("figures",Jv),("row",s_row),("window_words",ql)]) (gk1:GKs K [("rungs_words",tE),("frequent_words",lJ),("written",Jw),("_law_frequent",vR),("_law_rungs",Jx),("_law_state",Jy),("need",afy),("number_of",zL),("numbers_of",vU),("sound_bounds",qm),("bounds_of",zM),("words_of",DX),("signed_of",zN),("parted",QD),("rising_things",nJ),("sound_frequent",lK),("stand_for_total",jU),("sound_list",vV),("sound_rungs",tG),("sound_places",qp),("sound_sums",vX),("sound_window",qt),("sound_distinct",lM),("read_keep",zO),("read_frequent",nM),("read_rungs",vY),("read_window",tH),("read_distinct",nO),("read_sums",zP),("read_keepsake",nQ)]) (gk2:GKs K [("_law_pieces",DY),("_law_noted",Jz),("_law_last_of",zQ),("law",amN)]) (afz:MKs K C'0 [("turn","Rungs.turn",vK),("settle","Rungs.settle",pU),("__init__","Rungs.__init__",vL),("add","Rungs.add",zK)]) (afA:MKs K C'1 [("__init__","Window.__init__",sY),("settle","Window.settle",m8),("add","Window.add",vM),("idle","Window.idle",sZ)]) (afB:MKs K C'2 [("__init__","Distinct.__init__",m9),("settle","Distinct.settle",jQ),("add","Distinct.add",pW)]) (afC:MKs K C'3 [("__init__","Frequent.__init__",ni),("fit","Frequent.fit",pY),("add","Frequent.add",pZ)]) (afD:MKs K C'4 [("__init__","Balance.__init__",p8),("put","Balance.put",tu),("take","Balance.take",qe)]) (abF:MKs K C'5 [("put","Keepsake.put",qg),("take","Keepsake.take",nA),("idle","Keepsake.idle",nF),("__init__","Keepsake.__init__",nH)]) (zk:ZK K ["abs","all","dict","int","len","list","max","min","range","reversed","set","sorted","str","sum","zip"]) {QF:Tok} (Bg:iD K cV "FIGURES" = some (some (.str "0123456789" QF))) {Cd:Tok} (oR:iD K cV "LEAST_ROOM" = some (some (.int 2 Cd))) {abG:Tok} (Og:iD K cV "LINES" = some (some (.int 8 abG))) {ahr:Tok} (ZM:iD K cV "MOST" = some (some (.int 1152921504606846976 ahr))) {xY:Tok} (jV:iD K cV "MOST_FIGURES" = some (some (.int 60 xY))) {uz:Tok} (ju:iD K cV "MOST_HALVINGS" = some (some (.int 60 uz))) {Ce:Tok} (oU:iD K cV "MOST_LEVEL" = some (some (.int 60 Ce))) {Cg:Tok} (oW:iD K cV "MOST_REACH" = some (some (.int 1000000000 Cg))) {FJ:Tok} (rD:iD K cV "MOST_ROOM" = some (some (.int 64 FJ))) {FN:Tok} (rE:iD K cV "MOST_SPAN" = some (some (.int 1000000000 FN))) {abH:Tok} (Oh:iD K cV "PIECE" = some (some (.int 1000000000000000000000000000000 abH))) {uD:Tok} (jw:iD K cV "PIECE_FIGURES" = some (some (.int 30 uD))) {V3:Tok} (FQ:iD K cV "SPREAD" = some (some (.int 770093176312745717 V3))),
  R w K mg fa
end My
section
open PySem PySem.W PyProof.Rows L2
local macro_rules
  | `(tactic| o_head $H) => `(tactic|
    (refine holds_open (r := My.dX) (q := My.view) (loose := []) (N := 20000)
        (Xt := My.Ca) (XP := XL My.view [])
        (Yf := Hook.obs $H) (Ya := Hook.val $H) (YP := Hook.says $H) ?hl (Hook.of $H) (Hook.keeps $H)
        (fun s e => xl_of s (alG.mp e).1) XL.keeps
        (by rfl) (by rfl) (by rfl)
        (fun s e => recFacts_of (alG.mp e).2) (by rfl)
        (by first | assumption | decide +kernel) tb_g%
        #[rfl, rfl, rfl, rfl, rfl, by decide +kernel] ?hw ?hc;
     (case hl => exact My.amM My.seeP My.see0 My.see1 My.see2 My.see3 My.see4 My.see5 My.see6 My.see7 My.see8 My.see9 (by intro w os; kernel_rfl))))
local macro_rules
  | `(tactic| k_is) => `(tactic| first
    | (refine' My.LK.of ?lkl ?lkc ?lkk; (case lkl => k_is); (case lkc => k_is); (case lkk => k_is))
    | (refine' My.GK.of ?gka ?gkl; (case gka => k_is); (case gkl => k_is))
    | (refine' My.MeK.of ?mka ?mki ?mkl; (case mka => k_is); (case mki => k_is); (case mkl => k_is))
    | exact My.NK.nil
    | exact My.ZK.nil
    | exact My.GKs.nil
    | exact My.MKs.nil
    | (refine' My.GKs.cons ?gca ?gcb; (case gca => k_is); (case gcb => k_is))
    | (refine' My.MKs.cons ?mca ?mcb; (case mca => k_is); (case mcb => k_is))
    | (refine' My.NK.cons ?nka ?nkb; (case nka => k_is); (case nkb => k_is))
    | (refine' My.ZK.cons ?zka ?zkb; (case zka => k_is); (case zkb => k_is))
    | (refine' My.CK.of ?ck1 ?ck2 ?ck3 ?ck4 ?ck5 ?ck6; (case ck1 => k_is); (case ck2 => k_is); (case ck3 => k_is); (case ck4 => k_is); (case ck5 => k_is); (case ck6 => k_is))
    | fail)
open My in
set_option maxHeartbeats 0 in
theorem My.head(R:World->aH->(Str->Option Value)->Addr->Prop)(mk:My.amO R)
  (wk:∀{q:aN}{loose:List Str} {XP:(Str->Option Value)->Heap->Prop} {YP:World->Heap->Prop} {d:YF} {K:Jd->aH},K9.most=some 63->d.params.defaults=[]->(∀(w:World)(h:Heap),YP w h->(K w.params).In h)->(∀(w:World)(mg:Str->Option Value)(fa:Addr)(h:Heap),(K w.params).In h->h.Ns cV mg->mg d.name=some (.ref fa)->R w (K w.params) mg fa)->aeA q loose XP YP K9.row.toRowW d [] (fun f vs=>Yr f vs)):K9.Holds:=by
 w_on;refine PySem.W.holds_law My.seeW fun said=>?_;k_head;(case hw=>w_witness2)
 k_fill
 refine wk rfl rfl (fun w h Y=>asn Y) ?F
 case F =>
  intro w mg fa h KX G hmg;refine' mk KX G hmg ?aC'0 ?zR ?Fz ?aC'1 ?uy ?Bf ?aC'2 ?mK ?rA ?aC'3 ?mL ?rB ?aC'4 ?qu ?vZ ?aC'5 ?mO ?rC ?gk0 ?gk1 ?gk2 ?afz ?afA ?afB ?afC ?afD ?abF ?zk ?Bg ?oR ?Og ?ZM ?jV ?ju ?oU ?oW ?rD ?rE ?Oh ?jw ?FQ
  (case aC'0=>k_is)
  (case zR=>k_is)
  (case Fz=>k_is)
  (case aC'1=>k_is)
  (case uy=>k_is)
  (case Bf=>k_is)
  (case aC'2=>k_is)
  (case mK=>k_is)
  (case rA=>k_is)
  (case aC'3=>k_is)
  (case mL=>k_is)
  (case rB=>k_is)
  (case aC'4=>k_is)
  (case qu=>k_is)
  (case vZ=>k_is)
  (case aC'5=>k_is)
  (case mO=>k_is)
  (case rC=>k_is)
  (case gk0=>k_is)
  (case gk1=>k_is)
  (case gk2=>k_is)
  (case afz=>k_is)
  (case afA=>k_is)
  (case afB=>k_is)
  (case afC=>k_is)
  (case afD=>k_is)
  (case abF=>k_is)
  (case zk=>k_is)
  (case Bg=>k_is)
  (case oR=>k_is)
  (case Og=>k_is)
  (case ZM=>k_is)
  (case jV=>k_is)
  (case ju=>k_is)
  (case oU=>k_is)
  (case oW=>k_is)
  (case rD=>k_is)
  (case rE=>k_is)
  (case Oh=>k_is)
  (case jw=>k_is)
  (case FQ=>k_is)
end
set_option Elab.async false
set_option linter.all false
namespace L2
open PySem PySem.Spec PyProof.Rows
abbrev Key:=Sum Int Str
def QG:Key->Value->Bool
 | .inl k,v=>Jq k v
 | .inr x,v=>amk x v
def keyH(w:World):Key->Int
 | .inl k=>hashInt k
 | .inr x=>hashStr w x
theorem eU:∀{k:Key}{v:Value},QG k v=true->(∃i t,k=Sum.inl i/\v=Value.int i t)\/(∃x t,k=Sum.inr x/\v=Value.str x t)
 | .inl i,v,h=>by
  obtain⟨t,e⟩:=Value.isInt_shape (k:=i) (v:=v) h;exact .inl #[i,t,rfl,e]
 | .inr x,v,h=>by
  obtain⟨t,e⟩:=Value.isStrOf_shape (x:=x) (v:=v) h;exact .inr #[x,t,rfl,e]
theorem V4(i:Int)(t:Tok):QG (.inl i) (.int i t)=true:=by simp[QG,Jq]
theorem aiF(x:Str)(t:Tok):QG (.inr x) (.str x t)=true:=by simp[QG,amk]
theorem at9(a b:Int):decide ((Sum.inl a:Key)=Sum.inl b)=(a == b):=by
 by_cases e:a=b
 ·subst e;simp
 ·have h:¬ (Sum.inl a:Key)=Sum.inl b:=fun q=>e (amD q);rw[xj h];exact(xk.mpr e).symm
theorem aua(a b:Str):decide ((Sum.inr a:Key)=Sum.inr b)=decide (a=b):=by
 by_cases e:a=b
 ·subst e;simp
 ·have h:¬ (Sum.inr a:Key)=Sum.inr b:=fun q=>e (Sum.inr.inj q);rw[xj h,xj e]
theorem aub(a:Int)(b:Str):decide ((Sum.inl a:Key)=Sum.inr b)=false:=xj (fun q=>nomatch q)
theorem auc(a:Str)(b:Int):decide ((Sum.inr a:Key)=Sum.inl b)=false:=xj (fun q=>nomatch q)
def bU(prog:aN)(w:World):PySem.KeyKind prog w Key where
 is:=QG
 hash:=keyH w
 inj:=fun v a b ha hb=>by
  rcases eU ha with⟨i,t,rfl,rfl⟩|⟨x,t,rfl,rfl⟩
  ·rcases eU hb with⟨j,u,rfl,e⟩|⟨y,u,rfl,e⟩
   ·injection e with e1 _;rw[e1]
   ·exact nomatch e
  ·rcases eU hb with⟨j,u,rfl,e⟩|⟨y,u,rfl,e⟩
   ·exact nomatch e
   ·injection e with e1 _;rw[e1]
 byValue:=fun k v h=>by
  rcases eU h with⟨i,t,rfl,rfl⟩|⟨x,t,rfl,rfl⟩ <;> rfl
 pyHash:=fun hv h=>by
  rcases eU hv with⟨i,t,rfl,rfl⟩|⟨x,t,rfl,rfl⟩
  ·exact wpAny_pyHash_int h
  ·exact wpAny_pyHash_str h
 eqBool:=fun hu hv h=>by
  rcases eU hu with⟨i,t,rfl,rfl⟩|⟨x,t,rfl,rfl⟩
  ·rcases eU hv with⟨j,u,rfl,rfl⟩|⟨y,u,rfl,rfl⟩
   ·rw[at9]at h;exact aeb h
   ·rw[aub]at h;exact amn i t y u _ _ _ _ h
  ·rcases eU hv with⟨j,u,rfl,rfl⟩|⟨y,u,rfl,rfl⟩
   ·rw[auc]at h;exact amo x t j u _ _ _ _ h
   ·rw[aua]at h;exact wpAny_eqBool_str h
 «strs» := fun k x t v h=>by
  rcases eU h with⟨i,u,rfl,e⟩|⟨y,u,rfl,e⟩
  ·exact nomatch e
  ·injection e with e1 _;subst e1;cases v <;> rfl
theorem abI(prog:aN)(w:World)(i:Int)(t:Tok):(bU prog w).is (.inl i) (.int i t)=true:=V4 i t
theorem abJ(prog:aN)(w:World)(x:Str)(t:Tok):(bU prog w).is (.inr x) (.str x t)=true:=aiF x t
inductive V where
 |non|bl (b:Bool)|int (i:Int)|str (x:Str)|byt (b:Array UInt8)|flt (b:UInt64)|ref (a:Addr)|ty (n:String)
 deriving DecidableEq
def RelV:V->Value->Prop
 | .non,u=>u=Value.none
 | .bl b,u=>u=Value.bool b
 | .int i,u=>∃t,u=Value.int i t
 | .str x,u=>∃t,u=Value.str x t
 | .byt b,u=>∃t,u=Value.bytes b t
 | .flt b,u=>∃t,u=Value.float b t
 | .ref a,u=>u=Value.ref a
 | .ty n,u=>u=Value.type n
abbrev Vals:List V->List Value->Prop:=Paired RelV
theorem Vals.length(r:Vals xs us):xs.length=us.length:=afs r
theorem Vals.get:∀{xs:List V}{us:List Value}{i:Nat}{x:V},Vals xs us->xs[i]? = some x->∃u,us[i]? = some u/\RelV x u
 |_,_,_,_,.nil,e=>by simp at e
 |_,_,0,_,.cons r _,e=>by simp at e;subst e;show#[_,rfl,r]
 |_,_,i+1,x,.cons _ t,e=>by
  obtain⟨u,h1,h2⟩:=Vals.get (i:=i) (x:=x) t (by simpa using e);show#[u,by simpa using h1,h2]
theorem Vals.set(r:RelV x u):∀{xs:List V}{us:List Value}(i:Nat),Vals xs us->Vals (xs.set i x) (us.set i u)
 |_,_,_,.nil=>.nil
 |_,_,0,.cons _ t=>.cons r t
 |_,_,i+1,.cons q t=>.cons q (Vals.set r i t)
theorem Vals.append:∀{xs ys:List V}{us ws:List Value},Vals xs us->Vals ys ws->Vals (xs++ys) (us++ws)
 |_,_,_,_,.nil,s=>s
 |_,_,_,_,.cons r t,s=>.cons r (Vals.append t s)
theorem Vals.take:∀{xs:List V}{us:List Value}(n:Nat),Vals xs us->Vals (xs.take n) (us.take n)
 |_,_,0,_=>.nil
 |_,_,_+1,.nil=>.nil
 |_,_,n+1,.cons r t=>.cons r (Vals.take n t)
theorem Vals.drop:∀{xs:List V}{us:List Value}(n:Nat),Vals xs us->Vals (xs.drop n) (us.drop n)
 |_,_,0,r=>r
 |_,_,_+1,.nil=>.nil
 |_,_,n+1,.cons _ t=>Vals.drop n t
theorem Vals.none_of:∀{xs:List V}{us:List Value}{i:Nat},Vals xs us->xs[i]? = none->us[i]? = none:=fun {xs us i} r e=>by
 have h1:=r.length;have h2:xs.length<=i:=adS.mp e;exact adS.mpr tb_g%
def yL:Option V->Option Value->Prop
 |some v,some u=>RelV v u
 |none,none=>True
 |_,_=>False
def KV{κ:Type}:List (κ × V)->List (κ × Value)->Prop:=Paired fun p q=>p.1=q.1/\RelV p.2 q.2
def kV:Key->V
 | .inl i=>.int i
 | .inr x=>.str x
inductive HO where
 |lst (xs:List V)
 |tup (xs:List V)
 |dK (kvs:List (Key × V))|dT (kvs:List (List Key × V))
 |set (S:Int->Bool) (n:Nat)
 |ins (C dx:Addr) (fs:List (Str × V))
 |own (x:Addr)
 |xd (fs:List (Str × V))
 |met (f x:Addr)
 |rng (lo hi:Int)
 |frz (o:Obj) (u:HO)
 |tbl (ps:Array Value)
 |ext (φ:Heap->Prop)
abbrev Hp:=Addr->Option HO
def upd(H:Hp)(a:Addr)(o:HO):Hp:=fun b=>if b=a then some o else H b
theorem aj:upd H a o a=some o:=by unfold upd;rw[mI rfl]
theorem ao(h:b≠a):upd H a o b=H b:=by unfold upd;rw[mB h]
theorem cA:upd (upd H a o) a u=upd H a u:=by
 funext b;unfold upd;split <;> rfl
theorem fP{H:Hp}{a b:Addr}{o u:HO}(h:H a=some o)(h':H b=some u)(d:o≠u):a≠b:=by
 intro e;subst e;rw[h]at h';exact d (bC h')
theorem ak{H:Hp}{a b:Addr}{o:HO}(h:H a=some o)(h':H b=none):a≠b:=by
 intro e;subst e;rw[h]at h';cases h'
section
variable(P:aN)(w:World)
def dD(H:Hp)(h:Heap)(a:Addr):HO->Prop
 | .lst xs=>xs.length<=sizeLine/\∃(its:List Value)(n:Nat),Vals xs its/\h.get? a=some { cls:=.type "list",data:=.seq its.toArray n }
 | .tup xs=>xs.length<=sizeLine/\∃its:List Value,Vals xs its/\IsTup h a its.toArray
 | .dK kvs=>kvs.length<=sizeLine/\(a == rQ)=false/\∃vs,KV kvs vs/\h.DictOf (bU P w) a vs
 | .dT kvs=>kvs.length<=sizeLine/\(a == rQ)=false/\∃xs:List (List Key × Addr × Value),
   Paired (fun(p:List Key × V) (q:List Key × Addr × Value)=>p.1=q.1/\H q.2.1=some (.tup (p.1.map kV))/\RelV p.2 q.2.2) kvs xs /\
   ∃o es ep,h.get? a=some o/\o.ExactDict/\o.data=.dict es ep/\es.toList=xs.map (entryOfKey (IW (bU P w)))/\(xs.map (·.1)).Nodup
 | .set S n=>h.SetOf (g8 P w) a S n
 | .ins C dx fs=>H dx=some (.own a)/\fs.length<=1000/\dx≠a/\h.get? a=some (zu C dx) /\
   ∃mA,h.Ns1 dx mA/\(∀f,yL (fs.lookup f) (mA f))/\aei mA (fs.map (·.1))
 | .own _=>∃o,h.get? a=some o
 | .xd fs=>∃mA,h.Ns1 a mA/\∀f,yL (fs.lookup f) (mA f)
 | .rng lo hi=>∃t u v,h.get? a=some { cls:=.type "range",data:=.fields [.int lo t,.int hi u,.int 1 v].toArray }
 | .frz o u=>h.get? a=some o/\dD H h a u
 | .tbl ps=>h.get? a=some { cls:=.none,data:=.fields ps }
 | .met f x=>h.get? a=some (aey (.ref f) (.ref x))
 | .ext φ=>φ h/\(∃o,h.get? a=some o)/\∀h1 h2:Heap,φ h1->(∀o,h1.get? a=some o->h2.get? a=some o)->φ h2
def HOk(H:Hp)(h:Heap):Prop:=∀a o,H a=some o->dD P w H h a o
end
section
variable{P:aN}{w:World}{H H':Hp}{h h':Heap}{a:Addr}{o:HO}
theorem dD.lt(x:dD P w H h a o):a<h.objs.size:=by
 cases o with
 |lst xs=>obtain⟨_,_,_,_,e⟩:=x;exact aV e
 |tup xs=>obtain⟨_,_,_,p⟩:=x;exact p.lt
 |dK kvs=>obtain⟨_,_,_,_,o,_,_,e,_⟩:=x;exact aV e
 |dT kvs=>obtain⟨_,_,_,_,o,_,_,e,_⟩:=x;exact aV e
 |set S n=>obtain⟨o,_,_,_,e,_⟩:=x;exact aV e
 |ins C dx fs=>obtain⟨_,_,_,e,_⟩:=x;exact aV e
 |own y=>obtain⟨_,e⟩:=x;exact aV e
 |xd fs=>obtain⟨_,⟨_,_,_,e,_⟩,_⟩:=x;exact aV e
 |rng lo hi=>obtain⟨_,_,_,e⟩:=x;exact aV e
 |frz ob u=>obtain⟨e,_⟩:=x;exact aV e
 |tbl ps=>exact aV (show h.get? a=some _ from x)
 |met f y=>exact aV (show h.get? a=some _ from x)
 |ext φ=>obtain⟨_,⟨_,e⟩,_⟩:=x;exact aV e
theorem Paired.mapP:∀{l₁:List α}{l₂:List β},Paired F l₁ l₂->(∀a b,F a b->G a b)->Paired G l₁ l₂
 |_,_,.nil,_=>.nil
 |_,_,.cons r t,f=>.cons (f _ _ r) (Paired.mapP t f)
theorem dD.stay(x:dD P w H h a o)(k:∀b u,(b=a\/H b=some (.own a))->h.get? b=some u->h'.get? b=some u)
  (ho:∀b,H b=some (.own a)->H' b=some (.own a)) (ht:∀b xs,H b=some (.tup xs)->H' b=some (.tup xs)):dD P w H' h' a o:=by
 induction o with
 |lst xs=>obtain⟨z,its,n,r,e⟩:=x;show#[z,its,n,r,k _ _ (.inl rfl) e]
 |tup xs=>obtain⟨z,its,r,ob,e,c⟩:=x;show#[z,its,r,ob,k _ _ (.inl rfl) e,c]
 |dK kvs=>obtain⟨z,y,vs,r,ob,es,ep,e,c⟩:=x;show#[z,y,vs,r,ob,es,ep,k _ _ (.inl rfl) e,c]
 |dT kvs =>
  obtain⟨z,y,xs,r,ob,es,ep,e,c⟩:=x;show#[z,y,xs,Paired.mapP r fun p q z=>#[z.1,ht _ _ z.2.1,z.2.2],ob,es,ep,k _ _ (.inl rfl) e,c]
 |set S n=>obtain⟨ob,es,ep,t,e,c⟩:=x;show#[ob,es,ep,t,k _ _ (.inl rfl) e,c]
 |ins C dx fs =>
  obtain⟨d,z,ne,e,mA,⟨od,es,ep,e2,c⟩,r⟩:=x;show#[ho _ d,z,ne,k _ _ (.inl rfl) e,mA,#[od,es,ep,k _ _ (.inr d) e2,c],r]
 |own y=>obtain⟨ob,e⟩:=x;show#[ob,k _ _ (.inl rfl) e]
 |xd fs=>obtain⟨mA,⟨od,es,ep,e,c⟩,r⟩:=x;show#[mA,#[od,es,ep,k _ _ (.inl rfl) e,c],r]
 |rng lo hi=>obtain⟨t,u,v,e⟩:=x;show#[t,u,v,k _ _ (.inl rfl) e]
 |frz ob u ih=>obtain⟨e,q⟩:=x;show#[k _ _ (.inl rfl) e,ih q]
 |tbl ps =>
  have e:h.get? a=some { cls:=.none,data:=.fields ps }:=x;show h'.get? a=some { cls:=.none,data:=.fields ps };exact k a _ (.inl rfl) e
 |met f y =>
  have e:h.get? a=some (aey (.ref f) (.ref y)):=x;show h'.get? a=some (aey (.ref f) (.ref y));exact k a _ (.inl rfl) e
 |ext φ=>obtain⟨p,⟨o,e⟩,st⟩:=x;show#[st _ _ p fun o q=>k _ _ (.inl rfl) q,#[o,k _ _ (.inl rfl) e],st]
theorem HOk.lt(x:HOk P w H h)(e:H a=some o):a<h.objs.size:=(x a o e).lt
theorem HOk.fresh(x:HOk P w H h)(e:h.objs.size<=a):H a=none:=by
 cases q:H a with
 |none=>rfl
 |some u=>exact mM (eZ (x.lt q) e) (oN _)
theorem HOk.kept(x:HOk P w H h)(k:∀b u,h.get? b=some u->h'.get? b=some u):HOk P w H h':=fun a o e =>
 (x a o e).stay (fun b u _ q=>k b u q) (fun _ q=>q) fun _ _ q=>q
theorem HOk.laid(x:HOk P w H h)(k:∀b u,h.get? b=some u->h'.get? b=some u)(hp:h.objs.size<=a)(new:dD P w (upd H a o) h' a o):HOk P w (upd H a o) h':=fun b u e=>by
 have hn:=x.fresh hp;by_cases hb:b=a
 ·subst hb;rw[aj]at e;cases e;exact new
 ·rw[ao hb]at e;exact(x b u e).stay (fun c v _ q=>k c v q) (fun c q=>by rwa[ao (ak q hn)]) fun c xs q=>by rwa[ao (ak q hn)]
end
def Rd(H:Hp)(a:Addr)(u:HO):Prop:=H a=some u\/∃o,H a=some (.frz o u)
theorem Rd.ok(r:Rd H a u)(x:HOk P w H h):dD P w H h a u:=by
 rcases r with r|⟨o,r⟩
 ·exact x a u r
 ·obtain⟨_,q⟩:=x a _ r;exact q
def Mut:Option HO->Prop
 |some (.lst _)=>True
 |some (.dK _)=>True
 |some (.dT _)=>True
 |some (.set _ _)=>True
 |some (.ins _ _ _)=>True
 |some (.ext _)=>True
 |_=>False
section
variable{H:Hp}{h h':Heap}{x e:Addr}
theorem HOk.write(ok:HOk P w H h)(mu:Mut (H x))(he:e=x\/H e=some (.own x))(k:∀b u,b≠e->h.get? b=some u->h'.get? b=some u)(heo:∃u,h'.get? e=some u)
  (new:dD P w (upd H x o') h' x o'):HOk P w (upd H x o') h':=fun b u q=>by
 have nown:∀c y,H c=some (.own y)->c≠x:=fun c y r z=>by subst z;rwa[r]at mu
 have ntup:∀c xs,H c=some (.tup xs)->c≠x:=fun c xs r z=>by subst z;rwa[r]at mu
 by_cases hb:b=x
 ·subst hb;rw[aj]at q;cases q;exact new
 ·rw[ao hb]at q;by_cases hbe:b=e
  ·have q':H b=some (.own x):=by
    rcases he with z|z
    ·exact mM (hbe.trans z) hb
    ·rwa[hbe]
   rw[q]at q';cases q';obtain⟨v,hv⟩:=heo;show#[v,by rwa[hbe]]
  ·refine(ok b u q).stay (fun c v hc r=>k c v ?_ r) (fun c r=>by rwa[ao (nown c b r)]) fun c xs r=>by rwa[ao (ntup c xs r)]
   rcases hc with rfl|hc
   ·exact hbe
   ·rintro rfl;rcases he with z|z
    ·exact nown c b hc z
    ·rw[hc]at z;cases z;exact hb rfl
end
structure Un(fs ex:List Addr)(H H':Hp)(h h':Heap):Prop where
 keep:∀b o,h.get? b=some o->H b=none->b∉fs->b∉ex->h'.get? b=some o
 slot:∀b o,h.get? b=some o->H b=none->b∈fs->b∉ex->∃sl,h'.get? b=some { o with slots:=sl }
 free:∀b o,h.get? b=some o->H b=none->b∉ex->H' b=none
 there:∀b o,h.get? b=some o->b∉ex->∃o',h'.get? b=some o'
 tups:∀b xs,H b=some (.tup xs)->H' b=some (.tup xs)
 JB:∀b o u,H b=some (.frz o u)->H' b=some (.frz o u)
 QH:∀b ps,H b=some (.tbl ps)->∃more,H' b=some (.tbl (ps++more))
section
variable{fs fs' ex ex':List Addr}{H H1 H2:Hp}{h h1 h2 h':Heap}{a x e:Addr}{o:HO}
theorem Un.any(u:Un fs ex H H1 h h1)(q:h.get? b=some ob)(n:H b=none)(hx:b∉ex):∃sl,h1.get? b=some { ob with slots:=sl }:=by
 by_cases hb:b∈fs
 ·exact u.slot b ob q n hb hx
 ·show#[ob.slots,u.keep b ob q n hb hx]
theorem Un.kept(k:∀b u,h.get? b=some u->h'.get? b=some u):Un fs ex H H h h':=
 #[fun b ob q _ _ _=>k b ob q,fun b ob q _ _ _=>#[ob.slots,k b ob q],fun _ _ _ n _=>n,fun b ob q _=>#[ob,k b ob q],fun _ _ q=>q,fun _ _ _ q=>q,fun _ ps q=>#[#[],by rw[q];simp]]
theorem Un.refl:Un fs ex H H h h:=Un.kept fun _ _ q=>q
theorem Un.laid(k:∀b u,h.get? b=some u->h'.get? b=some u)(hp:h.objs.size<=a)(hn:H a=none):Un fs ex H (upd H a o) h h' where
 keep:=fun b u q _ _ _=>k b u q
 slot:=fun b u q _ _ _=>#[u.slots,k b u q]
 free:=fun b u q n _=>by rwa[ao (bJ (eZ (aV q) hp))]
 there:=fun b u q _=>#[u,k b u q]
 tups:=fun b xs q=>by rwa[ao (ak q hn)]
 JB:=fun b u xs q=>by rwa[ao (ak q hn)]
 QH:=fun b ps q=>#[#[],by rw[ao (ak q hn),q];simp]
theorem Un.write(mu:Mut (H x))(he:e=x\/H e=some (.own x))(k:∀b u,b≠e->h.get? b=some u->h'.get? b=some u)(heo:∃u,h'.get? e=some u):Un fs ex H (upd H x o) h h':=by
 have hx:∀b,H b=none->b≠x:=fun b n z=>by subst z;rwa[n]at mu
 have hb:∀b,H b=none->b≠e:=fun b n z=>by
  subst z;rcases he with r|r
  ·exact hx b n r
  ·rw[n]at r;cases r
 have hm:∀b u,H b=some u->¬ Mut (some u)->b≠x:=fun b u q nm z=>by subst z;rw[q]at mu;exact nm mu
 show#[fun b u q n _ _=>k b u (hb b n) q,fun b u q n _ _=>#[u.slots,k b u (hb b n) q],fun b u q n _=>by rw [ao (hx b n)];exact n,fun b u q _=>?_,
  fun b xs q=>by rw [ao (hm b _ q fun z=>z)];exact q,fun b u xs q=>by rw [ao (hm b _ q fun z=>z)];exact q,fun b ps q=>#[#[],by rw [ao (hm b _ q fun z=>z),q];simp]]
 by_cases hbe:b=e
 ·subst hbe;exact heo
 ·show#[u,k b u hbe q]
end
def trk(h:Heap)(H:Hp):List Addr:=(gY h.objs.size).filter fun a=>(H a).isSome
def ZP(h:Heap)(H:Hp):Heap:=PySem.W.hideAll h (trk h H)
theorem aiG(h:Heap)(H:Hp):(ZP h H).objs.size=h.objs.size:=PySem.W.hideAll_size _ _
theorem amP{h:Heap}(e:h.get? b=some o)(n:H b=none):(ZP h H).get? b=some o:=
 PySem.W.hideAll_get _ e fun hm=>by
  have q:(H b).isSome=true:=(pG.mp hm).2;rw[n]at q;simp at q
theorem apQ(e:(ZP h H).get? b=some o):h.get? b=some o/\H b=none:=by
 have e':h.get? b=some o:=PySem.W.of_hideAll (trk h H) e;show#[e',?_];cases q:H b with
 |none=>rfl
 |some x =>
  have hm:b∈trk h H:=pG.mpr #[CN.mpr (aV e'),by simp[q]];have z:(ZP h H).get? b=none:=PySem.W.hideAll_none (trk h H) hm;rw[z]at e;cases e
def apR(g h:Heap)(L:Addr):List (Addr × Obj):=(gY h.objs.size).filterMap fun a=>if a=L\/(g.get? a).isSome=true then none else(h.get? a).map fun o=>(a,o)
def rest(g h:Heap)(L d:Addr):List (Addr × Obj):=(apR g h L).filter fun p=>decide (p.1≠d)
structure Mod(K:aH)(mg:Str->Option Value)(base:Heap):Prop where
 kin:K.In base
 glob:base.Ns cV mg
 blt:∃mb,base.Ns aen mb/\∀x:Str,x ≠ "__name__" -> mb x=yX x
 nolimit:base.NoLimit
structure Cx where
 prog:aN
 w:World
 K:aH
 mg:Str->Option Value
 base:Heap
 A:aU
 N:List Str
 s₀:Shared
 H₀:Hp
 env:Env
 outer:List Env
 stack:List Env
 ex:List Addr
 fn:Str->Bool
 calm:Bool
 pn:List (Addr × Obj)
 xe:Value->Shared->Prop
def frs(l:List Env):List Addr:=l.filterMap (·.frame)
abbrev Cx.fs(X:Cx):List Addr:=frs X.outer
def Vis(sc:Scope)(x:Str):Prop:=sc.names.lookup x=some .local\/sc.names.lookup x=some .cell\/sc.names.lookup x=some .free
def Loc(sc:Scope)(x:Str):Prop:=sc.names.lookup x=some .local\/sc.names.lookup x=some .cell
def Look(env:Env)(h:Heap)(m:Str->Option Value)(x:Str)(u:Value):Prop:=
 (env.kindOf x=some .local/\m x=some u)\/((env.kindOf x=some .cell\/env.kindOf x=some .free)/\∃c,env.cells.lookup x=some c/\h.IsCell c (some u))
structure Cx.Ok(X:Cx):Prop where
 mod:Mod X.K X.mg X.base
 kind:X.env.scope.kind=.function
 glob:X.env.globals=cV
 blt:X.env.builtins=aen
 above:X.s₀.heap.objs.size<=X.env.locals
 inj:∀x y c,X.env.cells.lookup x=some c->X.env.cells.lookup y=some c->x=y
 has:∀x,(X.env.kindOf x=some .cell\/X.env.kindOf x=some .free)->∃c,X.env.cells.lookup x=some c
 cab:∀x c,X.fn x=true->X.env.cells.lookup x=some c->X.s₀.heap.objs.size<=c
 hd:X.calm=true->X.A.handled=none
 frames:X.A.frames=some X.stack
 stk:X.stack=X.outer\/(X.stack=X.env::X.outer/\X.env.frame=some X.env.locals)
 exf:∀b∈X.ex,b≠X.env.locals/\∀x c,X.env.cells.lookup x=some c->c≠b
 bs:∀b o,X.base.get? b=some o->X.s₀.heap.get? b=some o/\X.H₀ b=none
 bsz:X.base.objs.size<=X.s₀.heap.objs.size
 amQ:∀b o,X.base.get? b=some o->b∉X.ex
 exfs:∀b∈X.ex,b∉X.fs
 JC:X.s₀.heap.FunFrames X.base X.outer
 frf:∀b∈X.fs,X.H₀ b=none
structure Inv(X:Cx)(pins:List (Addr × Obj))(σ:List (Option V))(H:Hp)(s:Shared):Prop where
 ok:X.Ok
 os:s.os=X.s₀.os
 bare:zF s.gens
 base:Un X.fs X.ex X.H₀ H X.s₀.heap s.heap
 loc:∃m,s.heap.Ns X.env.locals m/\∀(i:Nat)(x:Str)(v:V),X.N[i]? = some x->σ[i]? = some (some v)->Vis X.env.scope x->∃u,RelV v u/\Look X.env s.heap m x u
 cell:∀x c,X.env.cells.lookup x=some c->∃v,s.heap.IsCell c v
 free:H X.env.locals=none
 xZ:∀x c,X.env.cells.lookup x=some c->H c=none
 pin:∀p∈X.pn++pins,s⁻¹ p.1=some p.2/\H p.1=none/\p.1≠X.env.locals/\p.1∉X.fs/\∀v,p.2.data≠.cell v
 hok:HOk X.prog X.w H s.heap
 len:σ.length=X.N.length
section
variable{X:Cx}{σ:List (Option V)}{H H':Hp}{s:Shared}{h':Heap}
theorem Cx.Ok.nofr(ok:X.Ok)(e:X.base.get? b=some o):b∉X.fs:=fun hb=>by
 have:=(ok.JC.mem hb).1;rw[e]at this;cases this
theorem Inv.bs(I:Inv X pins σ H s):∀b o,X.base.get? b=some o->s⁻¹ b=some o/\H b=none:=fun b o e =>
 #[I.base.keep b o (I.ok.bs b o e).1 (I.ok.bs b o e).2 (I.ok.nofr e) (I.ok.amQ b o e),I.base.free b o (I.ok.bs b o e).1 (I.ok.bs b o e).2 (I.ok.amQ b o e)]
theorem Inv.bk(I:Inv X pins σ H s):∀b o,X.base.get? b=some o->s⁻¹ b=some o:=fun b o e=>(I.bs b o e).1
theorem Inv.mod(I:Inv X pins σ H s):Mod X.K X.mg X.base:=I.ok.mod
theorem Inv.kIn(I:Inv X pins σ H s):X.K.In s.heap:=I.ok.mod.kin.keeps I.bk
theorem Inv.nolimit(I:Inv X pins σ H s):s.heap.NoLimit:=I.ok.mod.nolimit.keeps I.bk
theorem Inv.lt(I:Inv X pins σ H s):X.env.locals< ~~~s:=let ⟨_,hn,_⟩:=I.loc;hn.lt
theorem Inv.sz(I:Inv X pins σ H s):X.s₀.heap.objs.size<= ~~~s:=cW I.ok.above (gK I.lt)
theorem Inv.nofs(I:Inv X pins σ H s){a:Addr}(h: ~~~s<=a):a∉X.fs:=fun hb=>by
 obtain⟨_,o,ho,_⟩:=I.ok.JC.mem hb;exact mM (eZ (aV ho) (cW I.sz h)) (oN _)
theorem Inv.cne(I:Inv X pins σ H s):∀x c,X.env.cells.lookup x=some c->c≠X.env.locals:=fun x c e z=>by
 obtain⟨v,o,ho,hd⟩:=I.cell x c e;obtain⟨m,⟨o',es,ep,ho',hd',_⟩,_⟩:=I.loc;rw[z,ho']at ho;cases ho;rw[hd']at hd;cases hd
theorem Inv.JC(I:Inv X pins σ H s):s.heap.FunFrames X.base X.outer:=by
 have all:∀(l:List Env),(∀b∈frs l,b∈X.fs)->X.s₀.heap.FunFrames X.base l->s.heap.FunFrames X.base l:=by
  intro l
  induction l with
  |nil=>intro _ _;trivial
  |cons env r ih =>
   intro hs hl;obtain⟨hk,⟨L,o,hf,hn,ho,hd⟩,hr⟩:=hl;have hL:L∈X.fs:=hs L (by unfold frs;rw[xT,hf];exact bY);obtain⟨sl,e⟩:=I.base.slot L o ho (I.ok.frf L hL) hL fun z=>I.ok.exfs L z hL;show#[hk,#[L,_,hf,hn,e,hd],ih (fun b hb=>hs b (by unfold frs;rw[xT,hf];exact cF _ hb)) hr]
 exact all X.outer (fun _ hb=>hb) I.ok.JC
theorem Inv.stack(I:Inv X pins σ H s):s.heap.FunFrames X.base X.stack:=by
 rcases I.ok.stk with e|⟨e,hf⟩
 ·rw[e];exact I.JC
 ·rw[e];obtain⟨m,hn,_⟩:=I.loc;refine .cons (by rw[I.ok.kind];decide) hf hn ?_ I.JC;exact Heap.get?_none_of_le (cW I.ok.bsz I.ok.above)
theorem Inv.ZQ(I:Inv X pins σ H s):∀b∈frs X.stack,b∈X.env.locals::X.fs:=fun b hb=>by
 rcases I.ok.stk with e|⟨e,hf⟩
 ·rw[e]at hb;exact cF _ hb
 ·rw[e]at hb;unfold frs at hb;rwa[xT,hf]at hb
theorem Inv.ahs(I:Inv X pins σ H s):∀b∈frs X.stack,H b=none:=fun b hb=>by
 rcases aP.mp (I.ZQ b hb)with e|hb
 ·rw[e];exact I.free
 ·obtain⟨_,o,ho,_⟩:=I.ok.JC.mem hb;exact I.base.free b o ho (I.ok.frf b hb) fun z=>I.ok.exfs b z hb
theorem Inv.step{g':Array GenState}{t':Nat}{d':Drawn}{ch:List Addr}(I:Inv X pins σ H s)
  (hch:∀b∈ch,(b∈X.ex\/X.s₀.heap.objs.size<=b)/\b≠X.env.locals/\(∀x c,X.env.cells.lookup x=some c->c≠b)/\∀p∈X.pn++pins,p.1≠b)
  (keep:∀b o,b≠X.env.locals->b∉X.fs->b∉ch->s⁻¹ b=some o->H b=none->h'.get? b=some o)
  (slot:∀b o,b≠X.env.locals->b∈X.fs->b∉ch->s⁻¹ b=some o->H b=none->∃sl,h'.get? b=some { o with slots:=sl }) (free:∀b o,b∉ch->s⁻¹ b=some o->H b=none->H' b=none)
  (there:∀b o,b∉ch->s⁻¹ b=some o->∃o',h'.get? b=some o')
  (tups:∀b xs,H b=some (.tup xs)->H' b=some (.tup xs)) (JB:∀b o u,H b=some (.frz o u)->H' b=some (.frz o u)) (QH:∀b ps,H b=some (.tbl ps)->∃more,H' b=some (.tbl (ps++more)))
  (ns:∀m,s.heap.Ns X.env.locals m->h'.Ns X.env.locals m) (hok:HOk X.prog X.w H' h') (hg:zF g'):
  Inv X pins σ H' { s with heap:=h',gens:=g',drawn:=d',toks:=t' }:=by
 have neL:∀b o,X.s₀.heap.get? b=some o->b≠X.env.locals:=fun b o e=>bJ (eZ (aV e) I.ok.above);have neC:∀b o,X.s₀.heap.get? b=some o->b∉X.ex->b∉ch:=fun b o e hx hb=>by
  rcases(hch b hb).1 with z|z
  ·exact hx z
  ·exact mM (eZ (aV e) z) (oN _)
 have cellK:∀x c,X.env.cells.lookup x=some c->∀v,s.heap.IsCell c v->h'.IsCell c v:=fun x c e v ⟨o,ho,hd⟩=>by
  have nch:c∉ch:=fun z=>(hch c z).2.2.1 x c e rfl;by_cases hc:c∈X.fs
  ·obtain⟨sl,q⟩:=slot c o (I.cne x c e) hc nch ho (I.xZ x c e);show#[_,q,hd]
  ·show#[o,keep c o (I.cne x c e) hc nch ho (I.xZ x c e),hd]
 show#[I.ok,I.os,hg,#[fun b o e n hb hx=>?_,fun b o e n hb hx=>?_,fun b o e n hx=>?_,fun b o e hx=>?_,fun b xs e=>tups b xs (I.base.tups b xs e),fun b o xs e=>JB b o xs (I.base.JB b o xs e),fun b ps e=>?_],?_,fun x c e=>?_,?_,fun x c e=>?_,fun p hp=>?_,hok,I.len]
 ·exact keep b o (neL b o e) hb (neC b o e hx) (I.base.keep b o e n hb hx) (I.base.free b o e n hx)
 ·obtain⟨sl,e1⟩:=I.base.slot b o e n hb hx;obtain⟨sl',e2⟩:=slot b _ (neL b o e) hb (neC b o e hx) e1 (I.base.free b o e n hx);show#[sl',e2]
 ·obtain⟨o',e1⟩:=I.base.there b o e hx;exact free b o' (neC b o e hx) e1 (I.base.free b o e n hx)
 ·obtain⟨o',e1⟩:=I.base.there b o e hx;exact there b o' (neC b o e hx) e1
 ·obtain⟨m1,e1⟩:=I.base.QH b ps e;obtain⟨m2,e2⟩:=QH b _ e1;show#[m1++m2,by rw[e2,Array.append_assoc]]
 ·obtain⟨m,hn,hl⟩:=I.loc;show#[m,ns m hn,fun i x v e1 e2 e3=>?_];obtain⟨u,r,l⟩:=hl i x v e1 e2 e3;show#[u,r,?_];rcases l with l|⟨k,c,e,z⟩
  ·exact .inl l
  ·exact .inr #[k,c,e,cellK x c e _ z]
 ·obtain⟨v,z⟩:=I.cell x c e;show#[v,cellK x c e v z]
 ·obtain⟨m,⟨o,_,_,ho,_⟩,_⟩:=I.loc;exact free _ o (fun z=>(hch _ z).2.1 rfl) ho I.free
 ·obtain⟨v,o,ho,hd⟩:=I.cell x c e;exact free c o (fun z=>(hch c z).2.2.1 x c e rfl) ho (I.xZ x c e)
 ·obtain⟨e,n,ne,nf,d⟩:=I.pin p hp;have nch:p.1∉ch:=fun z=>(hch p.1 z).2.2.2 p hp rfl;show#[keep p.1 p.2 ne nf nch e n,free p.1 p.2 nch e n,ne,nf,d]
theorem Inv.un(I:Inv X pins σ H s)(u:Un X.fs [] H H' s.heap h')(hok:HOk X.prog X.w H' h'):Inv X pins σ H' { s with heap:=h',toks:=t' }:=by
 obtain ⟨m,⟨o,es,ep,ho,r⟩,_⟩:=id I.loc;obtain ⟨sl,hL⟩:=u.any ho I.free (by simp);exact I.step (g':=s.gens) (d':=s.drawn) (ch:=[]) (fun _ z=>nomatch z) (fun b o _ hb _ e n=>u.keep b o e n hb (by simp)) (fun b o _ hb _ e n=>u.slot b o e n hb (by simp)) (fun b o _ e n=>u.free b o e n (by simp)) (fun b o _ e=>u.there b o e (by simp)) u.tups u.JB u.QH (fun m' hm=>by
  obtain ⟨o',es',ep',ho',r'⟩:=hm;rw [ho] at ho';cases ho';show#[_,es',ep',hL,r']) hok I.bare
theorem Inv.call(I:Inv X pins σ H s)(u:Un (frs X.stack) ch H H' s.heap h')(hok:HOk X.prog X.w H' h')(hg:zF g')
  (hch:∀b∈ch,(b∈X.ex\/X.s₀.heap.objs.size<=b)/\b≠X.env.locals/\(∀x c,X.env.cells.lookup x=some c->c≠b)/\∀p∈X.pn++pins,p.1≠b):
  Inv X pins σ H' { s with heap:=h',gens:=g',drawn:=d',toks:=t' }:=by
 obtain ⟨m,⟨o,es,ep,ho,r⟩,_⟩:=id I.loc;obtain ⟨sl,hL⟩:=u.any ho I.free fun z=>(hch _ z).2.1 rfl;exact I.step (ch:=ch) hch (fun b o hL hb hc e n=>u.keep b o e n (fun z=>(aP.mp (I.ZQ b z)).elim hL hb) hc) (fun b o _ _ hc e n=>u.any e n hc) (fun b o hc e n=>u.free b o e n hc) (fun b o hc e=>u.there b o e hc) u.tups u.JB u.QH (fun m' hm=>by
  obtain ⟨o',es',ep',ho',r'⟩:=hm;rw [ho] at ho';cases ho';show#[_,es',ep',hL,r']) hok hg
theorem Inv.turned(I:Inv X pins σ H s)(k:∀b o,b≠it->s⁻¹ b=some o->h'.get? b=some o)(hn:H it=none)(hL:it≠X.env.locals)
  (h1:it∈X.ex\/X.s₀.heap.objs.size<=it) (h2:∀x c,X.env.cells.lookup x=some c->c≠it) (h3:∀p∈X.pn++pins,p.1≠it):Inv X pins σ H { s with heap:=h',toks:=t' }:=by
 have nit:∀b u,H b=some u->b≠it:=fun b u e z=>by rw[z,hn]at e;cases e
 refine I.step (g':=s.gens) (d':=s.drawn) (ch:=[it]) (fun b hb=>?_) (fun b o _ _ hc e _=>k b o (fun z=>hc (by simp[z])) e) (fun b o _ _ hc e _=>#[o.slots,k b o (fun z=>hc (by simp[z])) e]) (fun _ _ _ _ n=>n)
  (fun b o hc e=>#[o,k b o (fun z=>hc (by simp[z])) e]) (fun _ _ e=>e) (fun _ _ _ e=>e) (fun b ps e=>#[#[],by rw[e];simp]) (fun m hm=>?_) (fun b u e=>?_) I.bare
 ·have e:b=it:=by simpa using hb
  subst e;show#[h1,hL,h2,h3]
 ·obtain⟨o,es,ep,ho,r⟩:=hm;show#[o,es,ep,k _ o (aL hL) ho,r]
 ·refine(I.hok b u e).stay (fun c v hc q=>k c v ?_ q) (fun _ q=>q) fun _ _ q=>q;rcases hc with z|z
  ·rw[z];exact nit b u e
  ·exact nit c _ z
theorem Inv.tok(I:Inv X pins σ H s)(t:Nat):Inv X pins σ H { s with toks:=t }:=I.un (h':=s.heap) (t':=t) Un.refl I.hok
theorem Inv.kept(I:Inv X pins σ H s)(k:∀b u,s⁻¹ b=some u->h'.get? b=some u):Inv X pins σ H { s with heap:=h',toks:=t' }:=I.un (Un.kept k) (I.hok.kept k)
theorem Inv.laid{a:Addr}{o:HO}{t':Nat}(I:Inv X pins σ H s)(k:∀b u,s⁻¹ b=some u->h'.get? b=some u)(hp: ~~~s<=a)(new:dD X.prog X.w (upd H a o) h' a o):
  Inv X pins σ (upd H a o) { s with heap:=h',toks:=t' }:=I.un (Un.laid k hp (I.hok.fresh hp)) (I.hok.laid k hp new)
theorem Inv.write(I:Inv X pins σ H s)(mu:Mut (H x))(he:e=x\/H e=some (.own x))(k:∀b u,b≠e->s⁻¹ b=some u->h'.get? b=some u)(heo:∃u,h'.get? e=some u)
  (new:dD X.prog X.w (upd H x o) h' x o):Inv X pins σ (upd H x o) { s with heap:=h',toks:=t' }:=I.un (Un.write mu he k heo) (I.hok.write mu he k heo new)
theorem Inv.aht(I:Inv X pins σ H s)(h:∀p∈ahu,s⁻¹ p.1=some p.2/\H p.1=none/\p.1≠X.env.locals/\p.1∉X.fs/\∀v,p.2.data≠.cell v):Inv X ahu σ H s:=
 #[I.ok,I.os,I.bare,I.base,I.loc,I.cell,I.free,I.xZ,fun p hp=>(bH.mp hp).elim (fun z=>I.pin p (yP _ z)) (h p),I.hok,I.len]
theorem abK{N:List Str}(hN:N.Nodup){i j:Nat}{x:Str}(a:N[i]? = some x)(b:N[j]? = some x):i=j:=by
 obtain⟨h1,e1⟩:=dI.mp a;obtain⟨h2,e2⟩:=dI.mp b;exact(List.getElem_inj hN).mp (e1.trans e2.symm)
theorem V5{M:Model}(I:Inv X pins σ H s)(hN:X.N.Nodup)(hi:X.N[i]? = some x)(hx:Loc X.env.scope x)(r:RelV v u)
  (h:∀s',Inv X pins (σ.set i (some v)) H s'->(∃a,lF a s.heap s'.heap/\(a=X.env.locals\/X.env.cells.lookup x=some a))->Q () s') (hf:X.fn x=true\/X.env.scope.names.lookup x=some .local:=by first|exact .inl rfl|exact .inr rfl|assumption):wpAny M A (storeName X.env x u) Q E s:=by
 obtain⟨m,hn,hl⟩:=id I.loc;have hcls:(X.env.scope.kind == .class || (X.env.scope.kind == .module && X.env.locals != X.env.globals))=false:=by rw[I.ok.kind];rfl
 have hiσ:i<σ.length:=by rw[I.len];exact(dI.mp hi).1
 have cne:=I.cne;have tracked:∀{a:Addr}{h':Heap},(∃o,s⁻¹ a=some o/\H a=none)->lF a s.heap h'->HOk X.prog X.w H h':=fun {a h'} ha hs b ob e=>by
  obtain⟨_,_,hfree⟩:=ha;refine(I.hok b ob e).stay (fun c w' hc q=>(hs.2 c ?_).trans q) (fun _ q=>q) fun _ _ q=>q;rintro rfl;rcases hc with rfl|hc
  ·rw[hfree]at e;cases e
  ·rw[hfree]at hc;cases hc
 rcases hx with hk|hk
 ·refine wpAny_storeName_local hk hn (fun h' hn' hs=>?_) hcls;obtain⟨oL,_,_,hoL,_⟩:=id hn;refine h _ #[I.ok,I.os,I.bare,#[fun b o e n hb hx=>?_,fun b o e n hb hx=>?_,I.base.free,fun b o e hx=>?_,I.base.tups,I.base.JB,I.base.QH],#[_,hn',fun j y v' e1 e2 e3=>?_],fun y c e=>?_,I.free,I.xZ,fun p hp=>?_,tracked #[oL,hoL,I.free] hs,by simpa using I.len] #[_,hs,.inl rfl]
  ·exact(hs.2 b (bJ (eZ (aV e) I.ok.above))).trans (I.base.keep b o e n hb hx)
  ·obtain⟨sl,e1⟩:=I.base.slot b o e n hb hx;show#[sl,(hs.2 b (bJ (eZ (aV e) I.ok.above))).trans e1]
  ·obtain⟨o',e1⟩:=I.base.there b o e hx;show#[o',(hs.2 b (bJ (eZ (aV e) I.ok.above))).trans e1]
  ·by_cases hj:j=i
   ·subst hj;rw[hi]at e1;cases e1;rw[Xv hiσ]at e2;cases e2;show#[u,r,.inl #[hk,by simp]]
   ·rw[Ie (aL hj)]at e2;obtain⟨u',r',q⟩:=hl j y v' e1 e2 e3;show#[u',r',?_];rcases q with⟨k,e⟩|⟨k,c,e,z⟩
    ·refine .inl #[k,?_];have:y≠x:=fun e=>hj (abK hN e1 (e ▸ hi));simp[this,e]
    ·exact .inr #[k,c,e,z.sameBut hs (cne y c e)]
  ·obtain⟨w',z⟩:=I.cell y c e;show#[w',z.sameBut hs (cne y c e)]
  ·obtain⟨e,n,ne,nf,d⟩:=I.pin p hp;show#[(hs.2 p.1 ne).trans e,n,ne,nf,d]
 ·have hfn:X.fn x=true:=by
   rcases hf with z|z
   ·exact z
   ·rw[z]at hk;cases hk
  obtain⟨c,hc⟩:=I.ok.has x (.inl hk);obtain⟨w',z⟩:=I.cell x c hc;refine wpAny_storeName_cell I.ok.kind hk hc z (fun h' hc' hs=>?_);obtain⟨oc,hoc,hocd⟩:=id z;refine h { s with heap:=h' } #[I.ok,I.os,I.bare,#[fun b o e n hb hx=>?_,fun b o e n hb hx=>?_,I.base.free,fun b o e hx=>?_,I.base.tups,I.base.JB,I.base.QH],#[m,hn.sameBut hs (aL (cne x c hc)),fun j y v' e1 e2 e3=>?_],fun y c' e=>?_,I.free,I.xZ,fun p hp=>?_,tracked #[oc,hoc,I.xZ x c hc] hs,by simpa using I.len] #[c,hs,.inr hc]
  ·exact(hs.2 b (bJ (eZ (aV e) (I.ok.cab x c hfn hc)))).trans (I.base.keep b o e n hb hx)
  ·obtain⟨sl,e1⟩:=I.base.slot b o e n hb hx;show#[sl,(hs.2 b (bJ (eZ (aV e) (I.ok.cab x c hfn hc)))).trans e1]
  ·obtain⟨o',e1⟩:=I.base.there b o e hx;show#[o',(hs.2 b (bJ (eZ (aV e) (I.ok.cab x c hfn hc)))).trans e1]
  ·by_cases hj:j=i
   ·subst hj;rw[hi]at e1;cases e1;rw[Xv hiσ]at e2;cases e2;show#[u,r,.inr #[.inl hk,c,hc,hc']]
   ·rw[Ie (aL hj)]at e2;obtain⟨u',r',q⟩:=hl j y v' e1 e2 e3;show#[u',r',?_];rcases q with q|⟨k,c',e,z'⟩
    ·exact .inl q
    ·refine .inr #[k,c',e,z'.sameBut hs ?_];rintro rfl;exact hj (abK hN e1 (I.ok.inj _ _ _ e hc ▸ hi))
  ·by_cases hcc:c'=c
   ·subst hcc;show#[_,hc']
   ·obtain⟨w2,z2⟩:=I.cell y c' e;show#[w2,z2.sameBut hs hcc]
  ·obtain⟨e,n,ne,nf,d⟩:=I.pin p hp;show#[(hs.2 p.1 ?_).trans e,n,ne,nf,d];intro q;rw[q,hoc]at e;have q':oc=p.2:=bC e;exact d w' (by rwa[<-q'])
theorem abL{M:Model}(I:Inv X pins σ H s)(hN:X.N.Nodup)(hi:X.N[i]? = some x)(hx:Loc X.env.scope x)(r:RelV v u)
  (h:∀s',Inv X pins (σ.set i (some v)) H s'->Q () s') (hf:X.fn x=true\/X.env.scope.names.lookup x=some .local:=by first|exact .inl rfl|exact .inr rfl|assumption):wpAny M A (storeName X.env x u) Q E s:=
 V5 I hN hi hx r (fun s' I' _=>h s' I') hf
end
abbrev XK:=Value->Option Addr->Hp->Prop
abbrev St:=List (Option V)
abbrev VK:=V->Hp->Prop
abbrev TE:=St->Hp->VK->Prop
abbrev TT:=St->Hp->(Bool->Hp->Prop)->Prop
abbrev TA:=St->Hp->(List V->Hp->Prop)->Prop
structure Ends where
 nx:St->Hp->Prop
 rt:VK
 bk:St->Hp->Prop:=fun _ _=>False
 ct:St->Hp->Prop:=fun _ _=>False
abbrev TS:=Ends->St->Hp->Prop
def EP(X:Cx)(pins:List (Addr × Obj))(σ:St)(Q:VK)(u:Value)(s':Shared):Prop:=∃v H',Inv X pins σ H' s'/\RelV v u/\Q v H'
def TP(X:Cx)(pins:List (Addr × Obj))(σ:St)(Q:Bool->Hp->Prop)(b:Bool)(s':Shared):Prop:=∃H',Inv X pins σ H' s'/\Q b H'
def AP(X:Cx)(pins:List (Addr × Obj))(σ:St)(Q:List V->Hp->Prop)(us:List Value)(s':Shared):Prop:=∃vs H',Inv X pins σ H' s'/\Vals vs us/\Q vs H'
def SP(X:Cx)(pins:List (Addr × Obj))(D:Ends)(f:Flow)(s':Shared):Prop:=
 match f with
 | .next=>∃σ' H',Inv X pins σ' H' s'/\D.nx σ' H'
 | .brk=>∃σ' H',Inv X pins σ' H' s'/\D.bk σ' H'
 | .cont=>∃σ' H',Inv X pins σ' H' s'/\D.ct σ' H'
 | .ret u=>∃v σ' H',Inv X pins σ' H' s'/\RelV v u/\D.rt v H'
def PE(X:Cx)(e:Expr)(t:TE):Prop:=
 ∀(pins:List (Addr × Obj)) (s:Shared) (σ:St) (H:Hp) (Q:VK),Inv X pins σ H s->t σ H Q->wpAny (model X.prog X.w) X.A (eval e X.env) (EP X pins σ Q) X.xe s
def PT(X:Cx)(e:Expr)(t:TT):Prop:=
 ∀(pins:List (Addr × Obj)) (s:Shared) (σ:St) (H:Hp) (Q:Bool->Hp->Prop),Inv X pins σ H s->t σ H Q->wpAny (model X.prog X.w) X.A (Pz e X.env (eval e X.env)) (TP X pins σ Q) X.xe s
def PW(X:Cx)(e:Expr)(t:TT):Prop:=
 ∀(whole:Sem Value) (pins:List (Addr × Obj)) (s:Shared) (σ:St) (H:Hp) (Q:Bool->Hp->Prop),Inv X pins σ H s->t σ H Q->wpAny (model X.prog X.w) X.A (Pz e X.env whole) (TP X pins σ Q) X.xe s
theorem PW.pt(h:PW X e t):PT X e t:=h _
def PA(X:Cx)(es:List Expr)(t:TA):Prop:=
 ∀(pos:Pos) (pins:List (Addr × Obj)) (s:Shared) (σ:St) (H:Hp) (Q:List V->Hp->Prop),Inv X pins σ H s->t σ H Q->wpAny (model X.prog X.w) X.A (spliced (fK pos (cj es X.env))) (AP X pins σ Q) X.xe s
def PS(X:Cx)(st:Stmt)(t:TS):Prop:=
 ∀(pins:List (Addr × Obj)) (s:Shared) (σ:St) (H:Hp) (D:Ends),Inv X pins σ H s->t D σ H->wpAny (model X.prog X.w) X.A (exec st X.env) (SP X pins D) X.xe s
def PSs(X:Cx)(st:List Stmt)(t:TS):Prop:=
 ∀(pins:List (Addr × Obj)) (s:Shared) (σ:St) (H:Hp) (D:Ends),Inv X pins σ H s->t D σ H->wpAny (model X.prog X.w) X.A (execs st X.env) (SP X pins D) X.xe s
theorem thn{α:Type}{t:Sem α}{Q Q':α->Shared->Prop}{M:Model}{A:aU}{E:Value->Shared->Prop}{s:Shared}(h:wpAny M A t Q E s)(hQ:∀a s,Q a s->Q' a s):wpAny M A t Q' E s:=iw h hQ fun _ _ x=>x
section
variable{X:Cx}
inductive RV (o:Option (Option V)) (H:Hp) (Q:VK):Prop
 |k (v:V):o=some (some v)->Q v H->RV o H Q
@[reducible] def tVar(i:Nat):TE:=fun σ H Q=>RV σ[i]? H Q
@[reducible] def tC(v:V):TE:=fun _ H Q=>Q v H
theorem aud{i:Nat}{x:Str}{pos:Pos}(hN:X.N[i]? = some x)(hv:Vis X.env.scope x)(hd:(x == ("__debug__" : Str))=false:=by decide)(hcd:(x == ("__classdict__" : Str))=false:=by decide):PE X (.Name x pos) (tVar i):=by
 k_dat (Q,h) "g"
 obtain⟨v,e,h⟩:=h;obtain⟨m,hn,hl⟩:=I.loc;obtain⟨u,r,l⟩:=hl i x v hN e hv;have fin:EP X pins σ Q u s:=#[v,H,I,r,h];rcases l with⟨hk,hm⟩|⟨hk,c,hc,hcell⟩
 ·exact aeo (wpAny_loadName_local I.ok.kind hk hn hm fin) hd
 ·rcases hk with hk|hk
  ·exact aeo (wpAny_loadName_cell I.ok.kind hk hc hcell fin) hd
  ·exact aeo (wpAny_loadName_free I.ok.kind hk hc hcell fin hcd) hd
theorem JD{i j pos}:PE X (.Constant (.int i) j pos) (tC (.int i)):=fun _ _ _ H _ I h=>wpAny_Constant_int #[.int i,H,I.tok _,#[_,rfl],h]
theorem pe_bl{b j pos}:PE X (.Constant (.bool b) j pos) (tC (.bl b)):=fun _ _ _ H _ I h=>al3 #[.bl b,H,I,rfl,h]
theorem afE{j pos}:PE X (.Constant .none j pos) (tC .non):=fun _ _ _ H _ I h=>Constant_none #[.non,H,I,rfl,h]
theorem aue{x j pos}:PE X (.Constant (.str x) j pos) (tC (.str x)):=fun _ _ _ H _ I h=>Calls.Constant_str #[.str x,H,I.tok _,#[_,rfl],h]
def Gl(X:Cx)(x:Str):Prop:=X.env.kindOf x=some .globalImplicit
theorem Oi{E:Value->Shared->Prop}{pins:List (Addr × Obj)}{s:Shared}{σ:St}{H:Hp}{x:Str}{u:Value}{pos:Pos}{Q:Value->Shared->Prop}(I:Inv X pins σ H s)(hg:Gl X x)(hm:X.mg x=some u)(h:Q u s)
  (hd:(x == ("__debug__" : Str))=false:=by decide):wpAny (model X.prog X.w) X.A (eval (.Name x pos) X.env) Q E s:=
 ami I.ok.kind hg (Calls.loadGlobal_global (by rw[I.ok.glob];exact I.mod.glob.keeps I.bk) hm h) hd
theorem jW{E:Value->Shared->Prop}{pins:List (Addr × Obj)}{s:Shared}{σ:St}{H:Hp}{x:Str}{u:Value}{pos:Pos}{Q:Value->Shared->Prop}(I:Inv X pins σ H s)(hg:Gl X x)(hm:X.mg x=none)(hv:yX x=some u)(h:Q u s)
  (hn:x ≠ "__name__" := by decide) (hd:(x == ("__debug__" : Str))=false:=by decide):wpAny (model X.prog X.w) X.A (eval (.Name x pos) X.env) Q E s:=by
 obtain⟨mb,h1,h2⟩:=I.mod.blt;exact ami I.ok.kind hg (Calls.loadGlobal_builtin (by rw[I.ok.glob];exact I.mod.glob.keeps I.bk) hm (by rw[I.ok.blt];exact h1.keeps I.bk) ((h2 x hn).trans hv) h) hd
theorem gF(hg:Gl X x)(hm:X.mg x=some u)(r:RelV v u)(hd:(x == ("__debug__" : Str))=false:=by decide):PE X (.Name x pos) (tC v):=
 fun _ _ _ H _ I h=>Oi I hg hm #[v,H,I,r,h] hd
variable{a b:Expr}{pos:Pos}
@[reducible] def tB(t:TE):TT:=fun σ H Q=>t σ H fun x H1=>∃c,x=.bl c/\Q c H1
theorem auf(h:PE X e t)(he:∀whole,Pz e X.env whole=(do let v <-whole;Yx e.pos;Dk [v] (truthy v)):=by intro _;rfl):PT X e (tB t):=by
 k_dat (Q,hw) "g"
 refine isTrue_plain (thn (h pins s σ H _ I hw) fun v s1 zq=>?_) (he _)
 walk_at "s"
 obtain⟨d,rfl,q⟩:=q1;cases r1;exact CT #[H1,I1,q]
variable{rest:List Expr}
@[reducible] def tAnd(t u:TT):TT:=fun σ H Q=>t σ H fun c H1=>if c=true then u σ H1 Q else Q false H1
@[reducible] def tOr(t u:TT):TT:=fun σ H Q=>t σ H fun c H1=>if c=true then Q true H1 else u σ H1 Q
@[reducible] def tNot(t:TT):TT:=fun σ H Q=>t σ H fun c H1=>Q (!c) H1
theorem pw_and1(ha:PT X a tA):PW X (.BoolOp .And [a] pos) tA:=by
 intro wh pins s σ H Q I h;refine isTrue_and (thn (ha pins s σ H Q I h) fun c s1 e=>?_);cases c with
 |true=>exact isTrue_and_nil e
 |false=>exact e
theorem pw_or1(ha:PT X a tA):PW X (.BoolOp .Or [a] pos) tA:=by
 intro wh pins s σ H Q I h;refine isTrue_or (thn (ha pins s σ H Q I h) fun c s1 e=>?_);cases c with
 |false=>exact isTrue_or_nil e
 |true=>exact e
theorem pw_and(ha:PT X a tA)(hb:PW X (.BoolOp .And (b::rest) pos) tB'):PW X (.BoolOp .And (a::b::rest) pos) (tAnd tA tB'):=by
 intro wh pins s σ H Q I h
 k_dat (isTrue_and,ha,c) "v"
 obtain⟨H1,I1,q1⟩:=zq;cases c with
 |true=>exact hb wh pins s1 σ H1 Q I1 q1
 |false=>show#[H1,I1,q1]
theorem pw_or(ha:PT X a tA)(hb:PW X (.BoolOp .Or (b::rest) pos) tB'):PW X (.BoolOp .Or (a::b::rest) pos) (tOr tA tB'):=by
 intro wh pins s σ H Q I h
 k_dat (isTrue_or,ha,c) "v"
 obtain⟨H1,I1,q1⟩:=zq;cases c with
 |true=>show#[H1,I1,q1]
 |false=>exact hb wh pins s1 σ H1 Q I1 q1
theorem auh(ha:PT X a tA):PT X (.UnaryOp .Not a pos) (tNot tA):=by
 k_dat (Q,h) "g"
 exact isTrue_not (ha pins s σ H (fun c H1=>Q (!c) H1) I h)
@[reducible] def tAndV(ta tb:TE):TE:=fun σ H Q=>ta σ H fun x H1=>∃c,x=.bl c/\if c=true then tb σ H1 Q else Q (.bl false) H1
@[reducible] def tOrV(ta tb:TE):TE:=fun σ H Q=>ta σ H fun x H1=>∃c,x=.bl c/\if c=true then Q (.bl true) H1 else tb σ H1 Q
theorem aui{op}(h:PE X a t):PE X (.BoolOp op [a] pos) t:=fun pins s σ H Q I hw=>BoolOp_one (h pins s σ H Q I hw)
theorem auj(ha:PE X a ta)(hb:PE X (.BoolOp .And (b::rest) pos) tb):PE X (.BoolOp .And (a::b::rest) pos) (tAndV ta tb):=by
 k_dat (Q,h) "g"
 k_dat (BoolOp_and,ha,v) "v"
 walk_at "s"
 obtain⟨c,rfl,q1⟩:=q1;cases r1;refine CT ?_;cases c with
 |true=>exact hb pins s1 σ H1 Q I1 q1
 |false=>show#[.bl false,H1,I1,rfl,q1]
theorem pe_or(ha:PE X a ta)(hb:PE X (.BoolOp .Or (b::rest) pos) tb):PE X (.BoolOp .Or (a::b::rest) pos) (tOrV ta tb):=by
 k_dat (Q,h) "g"
 k_dat (BoolOp_or,ha,v) "v"
 walk_at "s"
 obtain⟨c,rfl,q1⟩:=q1;cases r1;refine CT ?_;cases c with
 |false=>exact hb pins s1 σ H1 Q I1 q1
 |true=>show#[.bl true,H1,I1,rfl,q1]
def tIf(t:TT)(ta tb:TE):TE:=fun σ H Q=>t σ H fun c H1=>if c=true then ta σ H1 Q else tb σ H1 Q
theorem QJ(hc:PT X c tA)(ha:PE X a ta)(hb:PE X b tb):PE X (.IfExp c a b pos) (tIf tA ta tb):=by
 k_dat (Q,h) "g"
 k_dat (wpAny_IfExp,hc,d) "v"
 obtain⟨H1,I1,q1⟩:=zq;cases d with
 |true=>exact ha pins s1 σ H1 Q I1 q1
 |false=>exact hb pins s1 σ H1 Q I1 q1
end
def SqL(K:aH)(H:Hp)(a:Addr)(xs:List V):Prop:=
 Rd H a (.lst xs) \/
  ∃o its n,K.lookup a=some o/\o.cls=.type "list" /\ o.dict=none/\o.data=.seq its n/\its.size<=sizeLine/\Vals xs its.toList
def SqT(K:aH)(H:Hp)(a:Addr)(xs:List V):Prop:=
 Rd H a (.tup xs) \/
  ∃o its n,K.lookup a=some o/\o.cls=.type "tuple" /\ o.data=.seq its n/\its.size<=sizeLine/\Vals xs its.toList
def absV:Value->Option V
 | .none=>some .non
 | .bool b=>some (.bl b)
 | .int i _=>some (.int i)
 | .str x _=>some (.str x)
 | .bytes b _=>some (.byt b)
 | .float b _=>some (.flt b)
 | .ref a=>some (.ref a)
 | .type n=>some (.ty n)
 |_=>none
theorem RelV.abs(r:RelV x u):absV u=some x:=by
 cases x with
 |non=>cases r;rfl
 |bl _=>cases r;rfl
 |int _=>obtain⟨t,rfl⟩:=r;rfl
 |str _=>obtain⟨t,rfl⟩:=r;rfl
 |byt _=>obtain⟨t,rfl⟩:=r;rfl
 |flt _=>obtain⟨t,rfl⟩:=r;rfl
 |ref _=>cases r;rfl
 |ty _=>cases r;rfl
theorem RelV.inj(r:RelV x u)(q:RelV y u):x=y:=bC (r.abs.symm.trans q.abs)
theorem Vals.inj:∀{xs ys:List V}{us:List Value},Vals xs us->Vals ys us->xs=ys
 |_,_,_,.nil,.nil=>rfl
 |_,_,_,.cons r t,.cons r' t'=>by rw[r.inj r',Vals.inj t t']
section
variable{X:Cx}{σ:St}{H:Hp}{s:Shared}
theorem Inv.list(I:Inv X pins σ H s)(h:SqL X.K H a xs):∃its:List Value,Vals xs its/\PlainL s.heap a its.toArray/\xs.length<=sizeLine:=by
 rcases h with h|⟨o,its,n,hk,hc,hd,hs,hz,r⟩
 ·obtain⟨z,its,n,r,e⟩:=h.ok I.hok;show#[its,r,#[_,n,e,rfl,rfl,rfl],z]
 ·show#[its.toList,r,#[o,n,I.kIn a o hk,hc,hd,by simpa using hs],?_];have e:=r.length;simp only[qZ]at e;lia
theorem Inv.tuple(I:Inv X pins σ H s)(h:SqT X.K H a xs):∃its:List Value,Vals xs its/\IsTup s.heap a its.toArray/\xs.length<=sizeLine:=by
 rcases h with h|⟨o,its,n,hk,hc,hs,hz,r⟩
 ·obtain⟨z,its,r,p⟩:=h.ok I.hok;show#[its,r,p,z]
 ·show#[its.toList,r,#[o,I.kIn a o hk,hc,n,by simpa using hs],?_];have e:=r.length;simp only[qZ]at e;lia
theorem Inv.abM(I:Inv X pins σ H s)(h:SqL X.K H a xs)(h':SqL X.K H a ys):xs=ys:=by
 obtain⟨its,r,⟨o,n,e,_,_,d⟩,_⟩:=I.list h;obtain⟨its',r',⟨o',n',e',_,_,d'⟩,_⟩:=I.list h';rw[e]at e';cases e';rw[d]at d';injection d' with d1 _;have:its=its':=by simpa using mN alS d1
 subst this;exact r.inj r'
theorem Inv.aiH(I:Inv X pins σ H s)(h:SqT X.K H a xs)(h':SqT X.K H a ys):xs=ys:=by
 obtain⟨its,r,⟨o,e,_,n,d⟩,_⟩:=I.tuple h;obtain⟨its',r',⟨o',e',_,n',d'⟩,_⟩:=I.tuple h';rw[e]at e';cases e';rw[d]at d';injection d' with d1 _;have:its=its':=by simpa using mN alS d1
 subst this;exact r.inj r'
end
abbrev Cx.wish(X:Cx)(E:Value->Shared->Prop):Cx:={ X with xe:=E }
abbrev Cx.nox(X:Cx):Cx:=X.wish fun _ _=>False
theorem Cx.Ok.wish{X:Cx}(ok:X.Ok)(E:Value->Shared->Prop):(X.wish E).Ok:=
 #[ok.mod,ok.kind,ok.glob,ok.blt,ok.above,ok.inj,ok.has,ok.cab,ok.hd,ok.frames,ok.stk,ok.exf,ok.bs,ok.bsz,ok.amQ,ok.exfs,ok.JC,ok.frf]
theorem Cx.Ok.tK{X:Cx}(ok:(X.wish E).Ok):X.Ok:=
 #[ok.mod,ok.kind,ok.glob,ok.blt,ok.above,ok.inj,ok.has,ok.cab,ok.hd,ok.frames,ok.stk,ok.exf,ok.bs,ok.bsz,ok.amQ,ok.exfs,ok.JC,ok.frf]
section
variable{X:Cx}{σ:St}{H:Hp}{s:Shared}
theorem Inv.wish(I:Inv X pins σ H s)(E:Value->Shared->Prop):Inv (X.wish E) pins σ H s:=#[I.ok.wish E,I.os,I.bare,I.base,I.loc,I.cell,I.free,I.xZ,I.pin,I.hok,I.len]
theorem Inv.tK(I:Inv (X.wish E) pins σ H s):Inv X pins σ H s:=#[I.ok.tK,I.os,I.bare,I.base,I.loc,I.cell,I.free,I.xZ,I.pin,I.hok,I.len]
theorem SP.tK(h:SP (X.wish E) pins D f s'):SP X pins D f s':=by
 cases f with
 |next=>obtain⟨σ',H',I,q⟩:=h;show#[σ',H',I.tK,q]
 |brk=>obtain⟨σ',H',I,q⟩:=h;show#[σ',H',I.tK,q]
 |cont=>obtain⟨σ',H',I,q⟩:=h;show#[σ',H',I.tK,q]
 |ret u=>obtain⟨v,σ',H',I,r,q⟩:=h;show#[v,σ',H',I.tK,r,q]
theorem PE.nox(h:PE X.nox e t):PE X e t:=fun pins s σ H Q I hw =>
 iw (h pins s σ H Q (I.wish _) hw) (fun _ _ ⟨v,H',I',r,q⟩=>#[v,H',I'.tK,r,q]) fun _ _ z=>jz z
theorem PT.nox(h:PT X.nox e t):PT X e t:=fun pins s σ H Q I hw =>
 iw (h pins s σ H Q (I.wish _) hw) (fun _ _ ⟨H',I',q⟩=>#[H',I'.tK,q]) fun _ _ z=>jz z
theorem PSs.nox{st:List Stmt}{t:TS}(h:PSs X.nox st t):PSs X st t:=fun pins s σ H D I hw =>
 iw (h pins s σ H D (I.wish _) hw) (fun _ _ q=>q.tK) fun _ _ z=>jz z
end
section
variable{X:Cx}{st:Stmt}{rest:List Stmt}{t u:TS}{e:Expr}{te:TE}{pos:Pos}
@[reducible] def arG:TS:=fun D σ H=>D.nx σ H
@[reducible] def FT(t u:TS):TS:=fun D σ H=>t { D with nx:=u D } σ H
theorem apS:PSs X [] arG:=fun _ _ σ H _ I h=>Yh #[σ,H,I,h]
theorem amR(h1:PS X st t)(h2:PSs X rest u):PSs X (st::rest) (FT t u):=by
 k_dat (D,h) "g"
 refine akL (thn (h1 pins s σ H { D with nx:=u D } I h) fun f s1 q=>?_);cases f with
 |next =>
  obtain⟨σ',H',I',q⟩:=q;exact h2 pins s1 σ' H' D I' q
 |ret v=>exact q
 |brk=>exact q
 |cont=>exact q
theorem apT(h1:PS X st t):PSs X [st] t:=by
 k_dat (D,h) "g"
 refine akL (thn (h1 pins s σ H D I h) fun f s1 q=>?_);cases f with
 |next=>exact Yh q
 |ret v=>exact q
 |brk=>exact q
 |cont=>exact q
theorem Inv.quiet{pins:List (Addr × Obj)}{σ:St}{H:Hp}{s:Shared}(I:Inv X pins σ H s):interactive X.env=false:=by simp[interactive,I.ok.kind]
@[reducible] def tDrop(te:TE):TS:=fun D σ H=>te σ H fun _ H1=>D.nx σ H1
theorem apU(he:PE X e te)(hs:Ja e none pos.line X.env=pure false:=by rfl):PS X (.Expr e pos) (tDrop te):=by
 k_dat (D,h) "g"
 exact wpAny_Expr_any (thn (he pins s σ H _ I h) fun v s1 ⟨x,H1,I1,r1,q1⟩=>#[σ,H1,I1,q1]) I.quiet hs
@[reducible] def tRet(te:TE):TS:=fun D σ H=>te σ H D.rt
theorem auk(he:PE X e te):PS X (.Return (some e) pos) (tRet te):=by
 k_dat (D,h) "g"
 exact wpAny_Return_some (thn (he pins s σ H _ I h) fun v s1 ⟨x,H1,I1,r1,q1⟩=>#[x,σ,H1,I1,r1,q1])
@[reducible] def tIfS(c:TT)(t u:TS):TS:=fun D σ H=>c σ H fun b H1=>if b=true then t D σ H1 else u D σ H1
theorem ps_if(hc:PT X c tc)(ha:PSs X a t)(hb:PSs X b u):PS X (.If c a b pos) (tIfS tc t u):=by
 k_dat (D,h) "g"
 k_dat (wpAny_If,hc,d) "v"
 obtain⟨H1,I1,q1⟩:=zq;cases d with
 |true=>exact ha pins s1 σ H1 D I1 q1
 |false=>exact hb pins s1 σ H1 D I1 q1
def aul:TS:=fun _ _ _=>False
theorem amS:PS X st aul:=fun _ _ _ _ _ _ h=>h.elim
end
abbrev TG:=V->St->Hp->(St->Hp->Prop)->Prop
abbrev TGs:=List V->St->Hp->(St->Hp->Prop)->Prop
def PG(X:Cx)(target:Expr)(t:TG):Prop:=
 ∀(pins:List (Addr × Obj)) (s:Shared) (σ:St) (H:Hp) (v:V) (u:Value) (Q:St->Hp->Prop),Inv X pins σ H s->RelV v u->t v σ H Q ->
  wpAny (model X.prog X.w) X.A (vA target X.env u) (fun _ s'=>∃σ' H',Inv X pins σ' H' s'/\Q σ' H') X.xe s
def PGs(X:Cx)(ts:List Expr)(t:TGs):Prop:=
 ∀(pins:List (Addr × Obj)) (s:Shared) (σ:St) (H:Hp) (vs:List V) (us:List Value) (Q:St->Hp->Prop),Inv X pins σ H s->Vals vs us->t vs σ H Q ->
  wpAny (model X.prog X.w) X.A (assignInOrder ((IV ts X.env).map (·.2)) us) (fun _ s'=>∃σ' H',Inv X pins σ' H' s'/\Q σ' H') X.xe s
abbrev TSet:=V->V->V->Hp->(Hp->Prop)->Prop
def PSet(X:Cx)(t:TSet):Prop:=
 ∀(pins:List (Addr × Obj)) (s:Shared) (σ:St) (H:Hp) (o i v:V) (ov iv u:Value) (Q:Hp->Prop),Inv X pins σ H s->RelV o ov->RelV i iv->RelV v u->t o i v H Q ->
  wpAny (model X.prog X.w) X.A (setItem ov iv u) (fun _ s'=>∃H',Inv X pins σ H' s'/\Q H') X.xe s
section
variable{X:Cx}{pos:Pos}
@[reducible] def mQ(i:Nat):TG:=fun v σ H Q=>Q (σ.set i (some v)) H
theorem v8(hN:X.N.Nodup)(hi:X.N[i]? = some x)(hx:Loc X.env.scope x)(hf:X.fn x=true\/X.env.scope.names.lookup x=some .local:=by first|exact .inl rfl|exact .inr rfl|assumption):PG X (.Name x pos) (mQ i):=by
 intro pins s σ H v u Q I r h;exact akI (abL I hN hi hx r (fun s' I'=>#[_,H,I',h]) hf)
def amT:TGs:=fun vs σ H Q=>vs=[]/\Q σ H
def FW(t:TG)(u:TGs):TGs:=fun vs σ H Q=>∃v r,vs=v::r/\t v σ H fun σ' H'=>u r σ' H' Q
theorem ZR:PGs X [] amT:=by
 intro pins s σ H vs us Q I r h;obtain⟨e,h⟩:=h;subst e;cases r;exact assignInOrder_nil #[σ,H,I,h]
theorem zT(h1:PG X e t)(h2:PGs X es u)
  (hs:(IV (e::es) X.env).map (·.2)=vA e X.env::(IV es X.env).map (·.2):=by rfl):PGs X (e::es) (FW t u):=by
 intro pins s σ H vs us Q I r h;obtain⟨v,vr,e1,h⟩:=h;subst e1;cases r with
 |cons r rr =>
  rw[hs];refine assignInOrder_cons (thn (h1 pins s σ H _ _ _ I r h) fun _ s1 zq=>?_);obtain⟨σ1,H1,I1,q1⟩:=zq;exact h2 pins s1 σ1 H1 _ _ Q I1 rr q1
def amU(K:aH)(n:Nat)(t:TGs):TG:=fun v σ H Q=>∃a xs,v=.ref a/\SqT K H a xs/\xs.length=n/\t xs σ H Q
theorem afF{es:List Expr}{k:Nat}{t:TGs}{n:Nat}(hc:X.calm=true)(h:PGs X es t)
  (hn:(IV es X.env).length=n:=by rfl) (hst:(IV es X.env).findIdx? (·.1)=none:=by rfl):PG X (.Tuple es k pos) (amU X.K n t):=by
 intro pins s σ H v u Q I r hw;obtain⟨a,xs,e1,hq,hl,hw⟩:=hw;subst e1;cases r;obtain⟨its,rv,ht,hz⟩:=I.tuple hq;refine assign_Tuple_tuple (I.ok.hd hc) ht (by simp[hn,<-hl,rv.length]) hst fun h' hx=>?_;have I1:Inv X pins σ H { s with heap:=h' }:=I.kept (t':=s.toks) fun b o e=>hx b o (bJ (aV e)) e;exact h pins _ σ H xs _ Q I1 (by simpa using rv) hw
@[reducible] def gSub(to ti:TE)(t:TSet):TG:=fun v σ H Q=>to σ H fun o H1=>ti σ H1 fun i H2=>t o i v H2 fun H3=>Q σ H3
theorem aum(ho:PE X o to)(hi:PE X i ti)(hs:PSet X t)
  (ha:∀ v,vA (.Subscript o i pos) X.env v=(do
   let ov <-Dk [v] (eval o X.env)
   let iv <-Dk [v,ov] (eval i X.env)
   Yx pos
   Dk [v,ov,iv] (setItem ov iv v)
   release [v,ov,iv] []):=by intro _;rfl):PG X (.Subscript o i pos) (gSub to ti t):=by
 intro pins s σ H v u Q I r h;rw[ha];refine aA (jD (thn (ho pins s σ H _ I h) fun ov s1 zq=>?_))
 walk_at "s"
 refine aA (jD (thn (hi pins s1 σ H1 _ I1 q1) fun iv s2 zq=>?_));obtain⟨y,H2,I2,r2,q2⟩:=zq;refine aA (aeh (aA (jD (thn (hs pins s2 σ H2 x y v ov iv u _ I2 r1 r2 r q2) fun _ s3 zq=>?_))));obtain⟨H3,I3,q3⟩:=zq;exact wpAny_release #[σ,H3,I3,q3]
@[reducible] def amV(te:TE)(g:TG):TS:=fun D σ H=>te σ H fun x H1=>g x σ H1 D.nx
theorem aun(he:PE X e te)(hg:PG X tg g)(hs:swapsWithSole [tg] e pos.line X.env=pure false:=by rfl)(hw:swappedStores [tg] e X.env=pure none:=by rfl)
  (h1:(IV [tg] X.env).map (·.2)=[vA tg X.env]:=by rfl):PS X (.Assign [tg] e pos) (amV te g):=by
 k_dat (D,h) "g"
 refine wpAny_Assign_stores (thn (he pins s σ H _ I h) fun v s1 zq=>?_) hs hw
 walk_at "s"
 rw[h1];exact thn (hg pins s1 σ H1 x v _ I1 r1 q1) fun _ s2 q=>q
theorem amW(hN:X.N.Nodup)(hi:X.N[i]? = some x)(hx:Loc X.env.scope x)(he:PE X e te)(hs:Ja e (some (.Name x pos')) pos.line X.env=pure false:=by rfl)(hf:X.fn x=true\/X.env.scope.names.lookup x=some .local:=by first|exact .inl rfl|exact .inr rfl|assumption):
  PS X (.Assign [.Name x pos'] e pos) (amV te (mQ i)):=by
 k_dat (D,h) "g"
 refine wpAny_Assign_Name (thn (he pins s σ H _ I h) fun v s1 zq=>?_) hs;obtain⟨y,H1,I1,r1,q1⟩:=zq;exact abL I1 hN hi hx r1 (fun s2 I2=>#[_,H1,I2,q1]) hf
def afG(c:TT)(tb:TS):TS:=fun D σ H=>∃W:Nat->St->Hp->Prop,(∃m,W m σ H)/\∀m σ H,W m σ H ->
 c σ H fun b H1=>if b=true then ∃N:St->Hp->Prop,(∀σ' H',N σ' H'->∃m',m'<m/\W m' σ' H')/\tb { D with nx:=N,ct:=N,bk:=D.nx } σ H1 else D.nx σ H1
theorem amX(hp:aer (model X.prog X.w) X.A X.env X.xe)(hc:PT X c tc)(hb:PSs X body tb):PS X (.While c body [] pos) (afG tc tb):=by
 k_dat (D,h) "g"
 obtain⟨W,⟨m0,w0⟩,turn⟩:=h;refine wpAny_While (codeAny_whileLoop (fun n s'=>∃σ' H',Inv X pins σ' H' s'/\W n σ' H') ?_ m0 #[σ,H,I,w0]);rintro n s1 ⟨σ1,H1,I1,w1⟩;refine CW hp (thn (hc pins s1 σ1 H1 _ I1 (turn n σ1 H1 w1)) fun b s2 zq=>?_);obtain⟨H2,I2,q2⟩:=zq;cases b with
 |true =>
  obtain⟨N,hN,q2⟩:=q2;rw[mI rfl];refine CW hp (thn (hb pins s2 σ1 H2 _ I2 q2) fun f s3 q3=>?_);cases f with
  |next =>
   obtain⟨σ3,H3,I3,n3⟩:=q3;obtain⟨m',hm,w3⟩:=hN σ3 H3 n3;show#[m',hm,σ3,H3,I3,w3]
  |cont =>
   obtain⟨σ3,H3,I3,n3⟩:=q3;obtain⟨m',hm,w3⟩:=hN σ3 H3 n3;show#[m',hm,σ3,H3,I3,w3]
  |brk=>exact q3
  |ret v=>exact q3
 |false =>
  rw[mB gM];exact Yh #[σ1,H2,I2,q2]
end
structure It where
 go:Nat->Hp->Prop
 yld:Nat->Hp->V->Hp->Prop
 stop:Nat->Hp->Prop
def FZ(X:Cx)(pins:List (Addr × Obj))(H:Hp)(b:Addr):Prop:=
 H b=none/\b≠X.env.locals/\b∉X.fs/\(b∈X.ex\/X.s₀.heap.objs.size<=b)/\(∀x c,X.env.cells.lookup x=some c->c≠b)/\∀p∈X.pn++pins,p.1≠b
theorem Inv.afH{X:Cx}{pins:List (Addr × Obj)}{σ:St}{H H':Hp}{s:Shared}{b:Addr}(I:Inv X pins σ H s)(hb: ~~~s<=b)(hn:H' b=none):FZ X pins H' b:=by
 show#[hn,jM (eZ I.lt hb),I.nofs hb,.inr (cW I.sz hb),fun x c e z=>?_,fun p hp z=>?_]
 ·obtain⟨v,q⟩:=I.cell x c e;exact mM (eZ q.lt (by rwa[z])) (oN _)
 ·exact mM (eZ (aV (I.pin p hp).1) (by rwa[z])) (oN _)
structure Turn(P:aN)(w:World)(K:aH)(tg:Expr)(J:It)(fp:List Addr)(it:Addr)(tn:Nat->Heap->Prop):Prop where
 mem:it∈fp
 obj:∀i h,tn i h->∀b∈fp,∃o,h.get? b=some o/\∀v,o.data≠.cell v
 keep:∀i h h',tn i h->(∀b∈fp,∀o,h.get? b=some o->h'.get? b=some o)->tn i h'
 item:∀(X:Cx),X.prog=P->X.w=w->X.K=K->X.calm=true->∀(i:Nat) (pins:List (Addr × Obj)) (s:Shared) (σ:St) (H:Hp) (E:Value->Shared->Prop),Inv X pins σ H s->(∀b∈fp,FZ X pins H b)->tn i s.heap->J.go i H ->
  wpAny (model P w) X.A (fM (.ref it)) (fun r s1=>∃ u,r=some u /\
   wpAny (model P w) X.A (Yi tg (.ref it) u) (fun _ s2=>∃ x H',Inv X pins σ H' s2/\RelV x u/\J.yld i H x H'/\tn (i+1) s2.heap/\∀ b∈fp,H' b=none) E s1) E s
 done:∀(X:Cx),X.prog=P->X.w=w->X.K=K->X.calm=true->∀(i:Nat) (pins:List (Addr × Obj)) (s:Shared) (σ:St) (H:Hp) (E:Value->Shared->Prop),Inv X pins σ H s->(∀b∈fp,FZ X pins H b)->tn i s.heap->J.stop i H ->
  wpAny (model P w) X.A (fM (.ref it)) (fun r s1=>r=none/\Inv X pins σ H s1) E s
 self:∀(A:aU)(i:Nat)(s:Shared)(Q:Value->Shared->Prop)(E:Value->Shared->Prop),tn i s.heap->Q (.ref it) s->wpAny (model P w) A (vB (.ref it)) Q E s
abbrev TI:=St->Hp->(It->Hp->Prop)->Prop
def PIE(X:Cx)(pins:List (Addr × Obj))(σ:St)(tg:Expr)(R:It->Hp->Prop)(itv:Value)(s2:Shared):Prop:=
 ∃it fp tn J H',itv=.ref it/\Inv X pins σ H' s2/\Turn X.prog X.w X.K tg J fp it tn/\tn 0 s2.heap/\(∀b∈fp,FZ X pins H' b)/\R J H'
def PI(X:Cx)(tg iter:Expr)(wi:TI):Prop:=
 ∀(pins:List (Addr × Obj)) (s:Shared) (σ:St) (H:Hp) (R:It->Hp->Prop),Inv X pins σ H s->wi σ H R ->
  wpAny (model X.prog X.w) X.A (eval iter X.env) (fun v s1=>wpAny (model X.prog X.w) X.A (vB v) (PIE X pins σ tg R) X.xe s1) X.xe s
theorem abN{M:Model}{s:Shared}(ho:s⁻¹ it=some o)(hc:o.cls=.type n)(hd:o.data=.fields vs)
  (hn:["enumerate","zip","dict_itemiterator","dict_reverseitemiterator","odict_iterator","itertools.zip_longest","itertools.pairwise"].contains n=false) (hQ:Q () s):wpAny M A (Yi tg (.ref it) u) Q E s:=by
 unfold Yi;cases tg <;> first
  |exact aF hQ
  | (cases u <;> first
    |exact aF hQ
    | (refine aA (aep ho ?_)
       rw [hc,hd];show wpAny M A (if (["enumerate","zip","dict_itemiterator","dict_reverseitemiterator","odict_iterator","itertools.zip_longest","itertools.pairwise"].contains n && vs[0]? == some (iC _))=true then _ else _) Q E s;rw [mB (by intro h;rw [hn,Bool.false_and] at h;cases h)];exact aF hQ))
def Itl(K:aH)(a:Addr):It:=
 #[fun i H=>∃xs x,SqL K H a xs/\xs[i]? = some x,fun i H x H'=>H'=H/\∀xs,SqL K H a xs->xs[i]? = some x,fun i H=>∃xs,SqL K H a xs/\xs.length<=i]
def Itt(K:aH)(a:Addr):It:=
 #[fun i H=>∃xs x,SqT K H a xs/\xs[i]? = some x,fun i H x H'=>H'=H/\∀xs,SqT K H a xs->xs[i]? = some x,fun i H=>∃xs,SqT K H a xs/\xs.length<=i]
def Itr(lo:Int)(n:Nat):It:=#[fun i _=>i<n,fun i H x H'=>H'=H/\x=.int (lo+i),fun i _=>n<=i]
theorem aiI{P:aN}{w:World}{K:aH}{tg:Expr}(a it:Addr):Turn P w K tg (Itl K a) [it] it (fun i h=>h.IsListIter it a i) where
 mem:=by simp
 obj:=fun i h st b hb=>by
  have e:b=it:=by simpa using hb
  subst e;obtain⟨o,e,c,d⟩:=st;show#[o,e,fun v z=>by rw[d]at z;cases z]
 keep:=fun i h h' st k=>st.at fun o e=>k it (by simp) o e
 item:=by
  walk_at "b"
  subst hP hw hK;obtain⟨xs,x,hq,hx⟩:=hg;obtain⟨its,rv,p,hz⟩:=I.list hq;obtain⟨u,hu,ru⟩:=rv.get hx
  k_dat it "d"
  refine wpAny_pyNext_list_item st p.isList (x:=u) (by simpa using hu) fun h' st' sb=>?_;have I1:Inv X pins σ H { s with heap:=h' }:=I.turned (t':=s.toks) (fun b o hb e=>(sb.2 b hb).trans e) f0 f1 f3 f4 f5;obtain⟨o,e,c,d⟩:=id st';show#[u,rfl,abN (s:={ s with heap:=h' }) e c d tb_g% #[x,H,I1,ru,#[rfl,fun ys hy=>by rwa[I.abM hy hq]],st',fun b hb=>(hf b hb).1]]
 done:=by
  walk_at "b"
  subst hP hw hK;obtain⟨xs,hq,hx⟩:=hg;obtain⟨its,rv,p,hz⟩:=I.list hq
  k_dat it "d"
  have hl:=rv.length;exact wpAny_pyNext_list_end (I.ok.hd hc) st p.isList (by simp;lia) fun h' eb=>#[rfl,I.turned (t':=s.toks) (fun b o hb e=>eb b o hb e) f0 f1 f3 f4 f5]
 self:=fun _ _ _ _ _ st h=>wpAny_pyIter_listiter st h
theorem afI{P:aN}{w:World}{K:aH}{tg:Expr}(a it:Addr):Turn P w K tg (Itt K a) [it] it (fun i h=>h.IsTupleIter it a i) where
 mem:=by simp
 obj:=fun i h st b hb=>by
  have e:b=it:=by simpa using hb
  subst e;obtain⟨o,e,c,d⟩:=st;show#[o,e,fun v z=>by rw[d]at z;cases z]
 keep:=fun i h h' st k=>st.at fun o e=>k it (by simp) o e
 item:=by
  walk_at "b"
  subst hP hw hK;obtain⟨xs,x,hq,hx⟩:=hg;obtain⟨its,rv,p,hz⟩:=I.tuple hq;obtain⟨u,hu,ru⟩:=rv.get hx
  k_dat it "d"
  refine wpAny_pyNext_tuple_item st (show s.heap.IsTuple a its.toArray from p) (x:=u) (by simpa using hu) fun h' st' sb=>?_;have I1:Inv X pins σ H { s with heap:=h' }:=I.turned (t':=s.toks) (fun b o hb e=>(sb.2 b hb).trans e) f0 f1 f3 f4 f5;obtain⟨o,e,c,d⟩:=id st';show#[u,rfl,abN (s:={ s with heap:=h' }) e c d tb_g% #[x,H,I1,ru,#[rfl,fun ys hy=>by rwa[I.aiH hy hq]],st',fun b hb=>(hf b hb).1]]
 done:=by
  walk_at "b"
  subst hP hw hK;obtain⟨xs,hq,hx⟩:=hg;obtain⟨its,rv,p,hz⟩:=I.tuple hq
  k_dat it "d"
  have hl:=rv.length;exact wpAny_pyNext_tuple_end (I.ok.hd hc) st (show s.heap.IsTuple a its.toArray from p) (by simp;lia) fun h' eb=>#[rfl,I.turned (t':=s.toks) (fun b o hb e=>eb b o hb e) f0 f1 f3 f4 f5]
 self:=fun _ _ _ _ _ st h=>wpAny_pyIter_tupleiter st h
theorem afJ{P:aN}{w:World}{K:aH}{tg:Expr}(it:Addr)(lo:Int)(n:Nat):Turn P w K tg (Itr lo n) [it] it (fun i h=>IsRangeIter h it (lo+(i:Nat)*1) ((n:Int)-(i:Nat)) 1) where
 mem:=by simp
 obj:=fun i h st b hb=>by
  have e:b=it:=by simpa using hb
  subst e;show#[_,st,fun v z=>by
   have z':Data.fields _=Data.cell v:=z;cases z']
 keep:=fun i h h' st k=>k it (by simp) _ st
 item:=by
  walk_at "b"
  subst hP hw hK
  k_dat it "d"
  have W:=Walks.range (prog:=X.prog) (w:=X.w) (I.ok.hd hc) it lo 1 n;refine W.item i s _ _ hg st fun v h' tk hv st' kk=>?_
  k_dat (t,hv) "y"
  have I1:Inv X pins σ H { s with heap:=h',toks:=tk }:=I.turned (fun b o hb e=>kk b o (by simpa using hb) e) f0 f1 f3 f4 f5;show#[_,rfl,abN (s:={ s with heap:=h',toks:=tk }) (n := "range_iterator") st' rfl rfl tb_g% #[.int (lo+i),H,I1,#[t,?_],#[rfl,rfl],st',fun b hb=>(hf b hb).1]];rw[aeN]
 done:=by
  walk_at "b"
  subst hP hw hK
  k_dat it "d"
  exact wpAny_pyNext_range_end (I.ok.hd hc) st (by have:n<=i:=hg;lia) fun h' eb=>#[rfl,I.turned (t':=s.toks) (fun b o hb e=>eb b o hb e) f0 f1 f3 f4 f5]
 self:=fun _ _ _ _ _ st h=>wpAny_pyIter_rangeiter st h
section
variable{X:Cx}{tg:Expr}
def iList(K:aH)(tl:TE):TI:=fun σ H R=>tl σ H fun x H1=>∃a,x=.ref a/\(∃xs,SqL K H1 a xs)/\R (Itl K a) H1
def iTup(K:aH)(tl:TE):TI:=fun σ H R=>tl σ H fun x H1=>∃a,x=.ref a/\(∃xs,SqT K H1 a xs)/\R (Itt K a) H1
theorem dO(hl:PE X l tl):PI X tg l (iList X.K tl):=by
 k_dat (R,h) "g"
 refine thn (hl pins s σ H _ I h) fun v s1 zq=>?_
 walk_at "s"
 obtain⟨a,e,⟨xs,hq⟩,q⟩:=q1;subst e;cases r1;obtain⟨its,rv,p,hz⟩:=I1.list hq;refine Io p.isList ?_;show#[~~~s1,[~~~s1],_,_,H1,rfl,I1.kept (t':=s1.toks) fun b o e=>cH _ e,aiI a _,#[_,cJ _ rfl,rfl,rfl],fun b hb=>?_,q];have e:b= ~~~s1:=by simpa using hb
 subst e;exact I1.afH (aK _) (I1.hok.fresh (aK _))
theorem amY(hl:PE X l tl):PI X tg l (iTup X.K tl):=by
 k_dat (R,h) "g"
 refine thn (hl pins s σ H _ I h) fun v s1 zq=>?_
 walk_at "s"
 obtain⟨a,e,⟨xs,hq⟩,q⟩:=q1;subst e;cases r1;obtain⟨its,rv,p,hz⟩:=I1.tuple hq;refine wpAny_pyIter_tuple (show s1.heap.IsTuple a its.toArray from p) ?_;show#[~~~s1,[~~~s1],_,_,H1,rfl,I1.kept (t':=s1.toks) fun b o e=>cH _ e,afI a _,#[_,cJ _ rfl,rfl,rfl],fun b hb=>?_,q];have e:b= ~~~s1:=by simpa using hb
 subst e;exact I1.afH (aK _) (I1.hok.fresh (aK _))
theorem amZ{pins:List (Addr × Obj)}{σ:St}{H:Hp}{s:Shared}{R:It->Hp->Prop}{E:Value->Shared->Prop}{lo hi:Int}{t u v:Tok}{tk:Nat}(I:Inv X pins σ H s)(h1:-(2 ^ 62)<=lo)(h2:lo<2 ^ 62)(h3:-(2 ^ 62)<=hi)(h4:hi<2 ^ 62)
  (q:R (Itr lo (hi-lo).toNat) H):wpAny (model X.prog X.w) X.A (vB (.ref (~~~s))) (PIE X pins σ tg R) E { s with heap:=s.heap.push { cls:=.type "range",data:=.fields [.int lo t,.int hi u,.int 1 v].toArray },toks:=tk }:=by
 refine wpAny_pyIter_range (IsRange.new ..) (small_one h1 h2 h3 h4) ?_;have I1:Inv X pins σ H { s with heap:=s.heap.push { cls:=.type "range",data:=.fields [.int lo t,.int hi u,.int 1 v].toArray },toks:=tk }:=I.kept fun b o e=>cH _ e;show#[(s.heap.push { cls:=.type "range",data:=.fields [.int lo t,.int hi u,.int 1 v].toArray }).objs.size,[(s.heap.push { cls:=.type "range",data:=.fields [.int lo t,.int hi u,.int 1 v].toArray }).objs.size],_,_,H,rfl,
  I1.kept (t':=tk) fun b o e=>cH _ e,afJ _ lo (hi-lo).toNat,?_,fun b hb=>?_,q]
 ·have e1:lo+((0:Nat):Int)*1=lo:=by simp
  have e2:(((hi-lo).toNat:Nat):Int)-((0:Nat):Int)=atP lo hi 1:=by rw[rangeSize_one];split <;> lia
  show IsRangeIter _ _ (lo+((0:Nat):Int)*1) ((((hi-lo).toNat:Nat):Int)-((0:Nat):Int)) 1;rw[e1,e2];exact cJ _ rfl
 ·have e:b=(s.heap.push { cls:=.type "range",data:=.fields [.int lo t,.int hi u,.int 1 v].toArray }).objs.size:=by simpa using hb
  subst e;exact I1.afH (aK _) (I1.hok.fresh (aK _))
def iRng1(ta:TA):TI:=fun σ H R=>ta σ H fun vs H1=>∃j:Int,vs=[.int j] /\ -(2 ^ 62)<=j/\j<2 ^ 62/\R (Itr 0 j.toNat) H1
theorem V6(hg:Gl X "range")(hm:X.mg "range" = none)(ha:PA X [a] ta)(hs:cj [a] X.env=[(false,eval a X.env)]:=by rfl):PI X tg (.Call (.Name "range" p) [a] [] pos) (iRng1 ta):=by
 k_dat (R,h) "g"
 refine Call_ (jW I hg hm boot_range (zE (thn (ha pos pins s σ H _ I h) fun us s1 zq=>?_) hs rfl));obtain⟨vs,H1,I1,r1,q1⟩:=zq;obtain⟨j,e,q1,q2,q⟩:=q1;subst e;cases r1 with
 |cons r rr =>
  cases rr
  k_dat (t,r) "y"
  exact call_range_1 (amZ I1 tb_g% tb_g% q1 q2 (by simpa using q))
def tFor(wi:TI)(g:TG)(tb:TS):TS:=fun D σ H=>wi σ H fun J H1=>∃W:Nat->Nat->St->Hp->Prop,(∃m,W 0 m σ H1)/\∀i m σ H,W i m σ H ->
 (J.stop i H/\D.nx σ H)\/(J.go i H/\∃N:St->Hp->Prop,(∀σ' H',N σ' H'->∃m',m'<m/\W (i+1) m' σ' H')/\∀x H',J.yld i H x H'->g x σ H' fun σ2 H2=>tb { D with nx:=N,ct:=N,bk:=D.nx } σ2 H2)
def QK(fp:List Addr)(h:Heap):List (Addr × Obj):=fp.filterMap fun b=>(h.get? b).map fun o=>(b,o)
theorem v9{h:Heap}(hb:b∈fp)(e:h.get? b=some o):(b,o)∈QK fp h:=akl.mpr #[b,hb,by rw[e];rfl]
theorem aiJ(hp:p∈QK fp h):p.1∈fp/\h.get? p.1=some p.2:=by
 obtain⟨b,hb,e⟩:=akl.mp hp;cases q:h.get? b with
 |none=>rw[q]at e;cases e
 |some o =>
  rw[q]at e;have e':(b,o)=p:=bC e;subst e';show#[hb,q]
theorem Inv.pinned{pins:List (Addr × Obj)}{σ:St}{H:Hp}{s:Shared}{fp:List Addr}(I:Inv X pins σ H s)(hf:∀b∈fp,FZ X pins H b)(ho:∀b∈fp,∃o,s⁻¹ b=some o/\∀v,o.data≠.cell v):Inv X (pins++QK fp s.heap) σ H s:=
 I.aht fun p hp=>(bH.mp hp).elim (fun z=>I.pin p (oG _ z)) fun z=>by
  obtain⟨hb,e⟩:=aiJ z;obtain⟨f0,f1,f2,_⟩:=hf p.1 hb;obtain⟨o,e',d⟩:=ho p.1 hb;rw[e]at e';cases e';show#[e,f0,f1,f2,d]
theorem Inv.zU{pins pl:List (Addr × Obj)}{σ:St}{H:Hp}{s:Shared}(I:Inv X (pins++pl) σ H s):Inv X pins σ H s:=I.aht fun p hp=>I.pin p (oG _ (yP _ hp))
theorem am0(hp:aer (model X.prog X.w) X.A X.env X.xe)(hc:X.calm=true)(hi:PI X tg iter wi)(hg:PG X tg g)(hb:PSs X body tb)
  (hs:∀x,CV iter X.env x=pure x:=by intro _;rfl):PS X (.For tg iter body [] pos) (tFor wi g tb):=by
 k_dat (D,h) "g"
 refine wpAny_For (thn (hi pins s σ H _ I h) fun v s1 h1=>thn h1 fun itv s2 h2=>?_) hs;obtain⟨it,fp,tn,J,H2,e,I2,T,st2,f2,W,⟨m0,w0⟩,turn⟩:=h2;subst e;have stat:∀{H':Hp},(∀b∈fp,H' b=none)->∀b∈fp,FZ X pins H' b:=fun hn b hb=>#[hn b hb,(f2 b hb).2];refine codeAny_forLoop_any (fun n s'=>∃i σ' H',Inv X pins σ' H' s'/\tn i s'.heap/\(∀b∈fp,H' b=none)/\W i n σ' H') ?_ m0 #[0,σ,H2,I2,st2,fun b hb=>(f2 b hb).1,w0];rintro n s3 ⟨i,σ3,H3,I3,st3,fr3,w3⟩;rcases turn i n σ3 H3 w3 with⟨stop,qn⟩|⟨go,N,hN,step⟩
 ·refine CW hp (thn (T.done X rfl rfl rfl hc i pins s3 σ3 H3 X.xe I3 (stat fr3) st3 stop) fun r s4 zq=>?_);obtain⟨hr,I4⟩:=zq;subst hr;exact Yh #[σ3,H3,I4,qn]
 ·refine CW hp (thn (T.item X rfl rfl rfl hc i pins s3 σ3 H3 X.xe I3 (stat fr3) st3 go) fun r s4 zq=>?_);obtain⟨u,hr,h4⟩:=zq;subst hr;refine CW hp (thn h4 fun _ s5 zq=>?_);obtain⟨x,H5,I5,r5,y5,st5,fr5⟩:=zq;have I5':=I5.pinned (stat fr5) (T.obj _ _ st5);refine CW hp (thn (hg _ s5 σ3 H5 x u _ I5' r5 (step x H5 y5)) fun _ s6 zq=>?_);obtain⟨σ6,H6,I6,q6⟩:=zq;refine CW hp (thn (hb _ s6 σ6 H6 _ I6 q6) fun f s7 q7=>?_);have again:∀{σ7:St}{H7:Hp},Inv X (pins++QK fp s5.heap) σ7 H7 s7->N σ7 H7->∃m,m<n/\∃i σ' H',Inv X pins σ' H' s7/\tn i s7.heap/\(∀b∈fp,H' b=none)/\W i m σ' H':=fun {σ7 H7} I7 n7=>by
   obtain⟨m',hm,w7⟩:=hN σ7 H7 n7;show#[m',hm,i+1,σ7,H7,I7.zU,T.keep _ _ _ st5 fun b hb o e=>(I7.pin (b,o) (oG _ (oG _ (v9 hb e)))).1,fun b hb=>?_,w7];obtain⟨o,e,d⟩:=T.obj _ _ st5 b hb;exact(I7.pin (b,o) (oG _ (oG _ (v9 hb e)))).2.1
  cases f with
  |next=>obtain⟨σ7,H7,I7,n7⟩:=q7;exact again I7 n7
  |cont=>obtain⟨σ7,H7,I7,n7⟩:=q7;exact again I7 n7
  |brk=>obtain⟨σ7,H7,I7,q7⟩:=q7;show#[σ7,H7,I7.zU,q7]
  |ret v=>obtain⟨x7,σ7,H7,I7,r7,q7⟩:=q7;show#[x7,σ7,H7,I7.zU,r7,q7]
end
theorem jX{K:aH}{a:Addr}{xs:List V}{g:TG}{tb:TS}{D:Ends}{σ:St}{H:Hp}(Pv:Nat->St->Hp->Prop)(h0:Pv 0 σ H)(hl:∀i σ H,i<=xs.length->Pv i σ H->SqL K H a xs)
  (hs:∀i x σ H,xs[i]? = some x->Pv i σ H->g x σ H fun σ2 H2=>tb { D with nx:=Pv (i+1),ct:=Pv (i+1),bk:=D.nx } σ2 H2) (hd:∀σ H,Pv xs.length σ H->D.nx σ H):
  ∃W:Nat->Nat->St->Hp->Prop,(∃m,W 0 m σ H)/\∀i m σ H,W i m σ H ->
   ((Itl K a).stop i H/\D.nx σ H)\/((Itl K a).go i H/\∃N:St->Hp->Prop,(∀σ' H',N σ' H'->∃m',m'<m/\W (i+1) m' σ' H')/\∀x H',(Itl K a).yld i H x H'->g x σ H' fun σ2 H2=>tb { D with nx:=N,ct:=N,bk:=D.nx } σ2 H2):=by
 show#[fun i m σ H=>m=xs.length-i/\i<=xs.length/\Pv i σ H,#[xs.length,by simp,cg _,h0],?_];rintro i m σ H ⟨rfl,hi,p⟩;have q:=hl i σ H hi p;by_cases hlt:i<xs.length
 ·refine .inr #[#[xs,xs[i],q,by simp[hlt]],Pv (i+1),fun σ' H' p'=>#[xs.length-(i+1),by lia,rfl,hlt,p'],fun x H' y=>?_];obtain⟨e,y⟩:=y;subst e;exact hs i x σ _ (y xs q) p
 ·have e:i=xs.length:=by lia
  subst e;exact .inl #[#[xs,q,aK _],hd σ H p]
theorem V7{lo:Int}{n:Nat}{g:TG}{tb:TS}{D:Ends}{σ:St}{H:Hp}(Pv:Nat->St->Hp->Prop)(h0:Pv 0 σ H)
  (hs:∀i σ H,i<n->Pv i σ H->g (.int (lo+i)) σ H fun σ2 H2=>tb { D with nx:=Pv (i+1),ct:=Pv (i+1),bk:=D.nx } σ2 H2) (hd:∀σ H,Pv n σ H->D.nx σ H):
  ∃W:Nat->Nat->St->Hp->Prop,(∃m,W 0 m σ H)/\∀i m σ H,W i m σ H ->
   ((Itr lo n).stop i H/\D.nx σ H)\/((Itr lo n).go i H/\∃N:St->Hp->Prop,(∀σ' H',N σ' H'->∃m',m'<m/\W (i+1) m' σ' H')/\∀x H',(Itr lo n).yld i H x H'->g x σ H' fun σ2 H2=>tb { D with nx:=N,ct:=N,bk:=D.nx } σ2 H2):=by
 show#[fun i m σ H=>m=n-i/\i<=n/\Pv i σ H,#[n,by simp,cg _,h0],?_];rintro i m σ H ⟨rfl,hi,p⟩;by_cases hlt:i<n
 ·refine .inr #[hlt,Pv (i+1),fun σ' H' p'=>#[n-(i+1),by lia,rfl,hlt,p'],fun x H' y=>?_];obtain⟨e,y⟩:=y;subst e y;exact hs i σ _ hlt p
 ·have e:i=n:=by lia
  subst e;exact .inl #[aK _,hd σ H p]
theorem uE(Pv:St->Hp->Prop)(μ:St->Hp->Nat)(h0:Pv σ H)
  (hs:∀σ H,Pv σ H->c σ H fun b H1=>if b=true then tb { D with nx:=fun σ' H'=>Pv σ' H'/\μ σ' H'<μ σ H,ct:=fun σ' H'=>Pv σ' H'/\μ σ' H'<μ σ H,bk:=D.nx } σ H1 else D.nx σ H1)
  (mono:∀σ H Q Q',(∀b H1,Q b H1->Q' b H1)->c σ H Q->c σ H Q'):afG c tb D σ H:=by
 show#[fun m σ H=>m=μ σ H/\Pv σ H,#[_,rfl,h0],?_];rintro m σ H ⟨rfl,p⟩;refine mono σ H _ _ (fun b H1 q=>?_) (hs σ H p);cases b with
 |true=>show#[_,fun σ' H' ⟨p',l⟩=>#[_,l,rfl,p'],q]
 |false=>exact q
abbrev R2:=V->V->Hp->VK->Prop
def OpR(X:Cx)(f:Value->Value->Sem Value)(r:R2):Prop:=
 ∀(pins:List (Addr × Obj)) (s:Shared) (σ:St) (H:Hp) (x y:V) (v u:Value) (Q:VK),Inv X pins σ H s->RelV x v->RelV y u->r x y H Q ->
  wpAny (model X.prog X.w) X.A (f v u) (EP X pins σ Q) X.xe s
def UnR(X:Cx)(f:Value->Sem Value)(r:V->Hp->VK->Prop):Prop:=
 ∀(pins:List (Addr × Obj)) (s:Shared) (σ:St) (H:Hp) (x:V) (v:Value) (Q:VK),Inv X pins σ H s->RelV x v->r x H Q ->
  wpAny (model X.prog X.w) X.A (f v) (EP X pins σ Q) X.xe s
def gA(X:Cx)(f:Value)(r:List V->Hp->VK->Prop):Prop:=
 ∀(pins:List (Addr × Obj)) (s:Shared) (σ:St) (H:Hp) (xs:List V) (us:List Value) (Q:VK),Inv X pins σ H s->Vals xs us->r xs H Q ->
  wpAny (model X.prog X.w) X.A (call f us) (EP X pins σ Q) X.xe s
@[reducible] def tOp(r:R2)(ta tb:TE):TE:=fun σ H Q=>ta σ H fun x H1=>tb σ H1 fun y H2=>r x y H2 Q
def tUn(r:V->Hp->VK->Prop)(ta:TE):TE:=fun σ H Q=>ta σ H fun x H1=>r x H1 Q
inductive rI (C:Int->Int->Prop) (g:Int->Int->V) (x y:V) (H:Hp) (Q:VK):Prop
 |k (i j:Int):x=.int i->y=.int j->C i j->Q (g i j) H->rI C g x y H Q
inductive rI0 (g:Int->Int->V) (x y:V) (H:Hp) (Q:VK):Prop
 |k (i j:Int):x=.int i->y=.int j->Q (g i j) H->rI0 g x y H Q
def rU(g:Int->V):V->Hp->VK->Prop:=fun x H Q=>∃i,x=.int i/\Q (g i) H
section
variable{X:Cx}{a b c:Expr}{pos:Pos}
theorem binT(ha:PE X a ta)(hb:PE X b tb){pins:List (Addr × Obj)}{s:Shared}{σ:St}{H:Hp}{R:V->V->Hp->Prop}(I:Inv X pins σ H s)
  (h:ta σ H fun x H1=>tb σ H1 fun y H2=>R x y H2) {Q:Value->Shared->Prop} {f:Value->Value->Sem Value}
  (hf:∀v u s2 x y H2,Inv X pins σ H2 s2->RelV x v->RelV y u->R x y H2->wpAny (model X.prog X.w) X.A (f v u) Q X.xe s2):
  wpAny (model X.prog X.w) X.A (eval a X.env) (fun v s₁=>wpAny (model X.prog X.w) X.A (eval b X.env) (fun u s₂=>wpAny (model X.prog X.w) X.A (f v u) Q X.xe s₂) X.xe s₁) X.xe s:=by
 refine thn (ha pins s σ H _ I h) fun v s1 zq=>?_
 walk_at "s"
 refine thn (hb pins s1 σ H1 _ I1 q1) fun u s2 zq=>?_;obtain⟨y,H2,I2,r2,q2⟩:=zq;exact hf v u s2 x y H2 I2 r1 r2 q2
theorem ahv(ho:OpR X (mZ op) r)(ha:PE X a ta)(hb:PE X b tb):PE X (.BinOp a op b pos) (tOp r ta tb):=by
 k_dat (Q,h) "g"
 exact wpAny_BinOp (binT ha hb I h fun v u s2 x y H2 I2 rx ry q=>ho pins s2 σ H2 x y v u Q I2 rx ry q)
theorem pe_un(ho:UnR X (unaryOp op) r)(ha:PE X a ta):PE X (.UnaryOp op a pos) (tUn r ta):=by
 k_dat (Q,h) "g"
 exact UnaryOp_ (thn (ha pins s σ H _ I h) fun v s1 ⟨x,H1,I1,r1,q1⟩=>ho pins s1 σ H1 x v Q I1 r1 q1)
theorem opI{f:Value->Value->Sem Value}{C:Int->Int->Prop}{g:Int->Int->Int}
  (rule:∀i j t u s Q E,C i j->Q (.int (g i j) s.toks) { s with toks:=s.toks+1 }->wpAny (model X.prog X.w) X.A (f (.int i t) (.int j u)) Q E s):
  OpR X f (rI C fun i j=>.int (g i j)):=by
 k_dat (y,u,ry) "i"
 obtain⟨i,j,rfl,rfl,hc,q⟩:=h
 k_dat (t,rx) "y"
 k_dat (t',ry) "y"
 exact rule i j t t' s _ _ hc #[.int (g i j),H,I.tok _,#[_,rfl],q]
theorem opI0{f:Value->Value->Sem Value}{g:Int->Int->Int}
  (rule:∀i j t u s Q E,Q (.int (g i j) s.toks) { s with toks:=s.toks+1 }->wpAny (model X.prog X.w) X.A (f (.int i t) (.int j u)) Q E s):
  OpR X f (rI0 fun i j=>.int (g i j)):=by
 k_dat (y,u,ry) "i"
 obtain⟨i,j,rfl,rfl,q⟩:=h
 k_dat (t,rx) "y"
 k_dat (t',ry) "y"
 exact rule i j t t' s _ _ #[.int (g i j),H,I.tok _,#[_,rfl],q]
theorem opB0{f:Value->Value->Sem Value}{g:Int->Int->Bool}
  (rule:∀i j t u s Q E,Q (.bool (g i j)) s->wpAny (model X.prog X.w) X.A (f (.int i t) (.int j u)) Q E s):
  OpR X f (rI0 fun i j=>.bl (g i j)):=by
 k_dat (y,u,ry) "i"
 obtain⟨i,j,rfl,rfl,q⟩:=h
 k_dat (t,rx) "y"
 k_dat (t',ry) "y"
 exact rule i j t t' s _ _ #[.bl (g i j),H,I,rfl,q]
def CDiv(i j:Int):Prop:=0<j/\j<1073741824
def CPow(i j:Int):Prop:=0<=j/\j<=1000000/\i.natAbs<2 ^ 64
def am1(i j:Int):Prop:=(-(2 ^ 64)<i/\i<2 ^ 64)\/(-(2 ^ 64)<j/\j<2 ^ 64)
theorem am1.ok(h:am1 i j):IntMulOk i j:=by
 rcases h with⟨h1,h2⟩|⟨h1,h2⟩
 ·exact .of_left (akS h1 h2)
 ·exact .of_right (akS h1 h2)
theorem iH:OpR X (mZ .Add) (rI0 fun i j=>.int (i+j)):=opI0 fun _ _ _ _ _ _ _ q=>add_int q
theorem auo:OpR X (mZ .Sub) (rI0 fun i j=>.int (i-j)):=opI0 fun _ _ _ _ _ _ _ q=>sub_int q
theorem aup:OpR X (mZ .Mult) (rI am1 fun i j=>.int (i*j)):=opI fun _ _ _ _ _ _ _ hc q=>mul_int q hc.ok
theorem apV:OpR X (mZ .FloorDiv) (rI CDiv fun i j=>.int (i / j)):=opI fun i j _ _ _ _ _ hc q=>by
 have h1:(0:Int)<j:=hc.1;have h2:j<1073741824:=hc.2;exact al5 tb_g% (by rwa[alu i tb_g%]) (.inl (PyProof.noPylong_small tb_g%))
theorem auq:OpR X (mZ .Mod) (rI (fun _ j=>0<j) fun i j=>.int (i % j)):=opI fun i j _ _ _ _ _ hc q=>by
 have h1:(0:Int)<j:=hc;exact mod_int' tb_g% (by rwa[Int.fmod_eq_emod_of_nonneg i tb_g%])
theorem aur:OpR X (mZ .LShift) (rI CPow fun i j=>.int (i*2 ^ j.toNat)):=opI fun _ _ _ _ _ _ _ hc q=>lshift_int_small hc.1 hc.2.1 hc.2.2 q
theorem unI{f:Value->Sem Value}{g:Int->Int}
  (rule:∀i t s Q E,Q (.int (g i) s.toks) { s with toks:=s.toks+1 }->wpAny (model X.prog X.w) X.A (f (.int i t)) Q E s):
  UnR X f (rU fun i=>.int (g i)):=by
 intro pins s σ H x v Q I rx h;obtain⟨i,rfl,q⟩:=h
 k_dat (t,rx) "y"
 exact rule i t s _ _ #[.int (g i),H,I.tok _,#[_,rfl],q]
theorem aus:UnR X (unaryOp .USub) (rU fun i=>.int (-i)):=unI fun _ _ _ _ _ q=>neg_int q
end
def scal:V->V->Bool
 | .non,.non=>true | .non,.int _=>true | .int _,.non=>true | .non,.bl _=>true | .bl _,.non=>true | .non,.str _=>true | .str _,.non=>true
 | .int _,.int _=>true | .bl _,.bl _=>true | .str _,.str _=>true | .byt _,.byt _=>true
 | .int _,.str _=>true | .str _,.int _=>true | .bl _,.str _=>true | .str _,.bl _=>true
 |_,_=>false
def rEq:R2:=fun x y H Q=>scal x y=true/\Q (.bl (decide (x=y))) H
def rNe:R2:=fun x y H Q=>scal x y=true/\Q (.bl (!decide (x=y))) H
theorem ahw:decide (V.int i=V.int j)=(i == j):=by
 rw[Qf];simp
theorem am2:decide (V.bl i=V.bl j)=(i == j):=by
 rw[Qf];simp
theorem ahx:decide (V.str i=V.str j)=(i == j):=by
 rw[Qf];simp
theorem ahy:decide (V.byt i=V.byt j)=(i.toList == j.toList):=by
 rw[Qf];cases i;cases j;simp
section
variable{X:Cx}{a b c:Expr}{pos:Pos}
theorem cU{pins:List (Addr × Obj)}{σ:St}{H:Hp}{s:Shared}{Q:VK}{k k':Bool}(I:Inv X pins σ H s)(q:Q (.bl k) H)(e:k=k'):EP X pins σ Q (.bool k') s:=by
 subst e;show#[.bl k,H,I,rfl,q]
theorem V8:OpR X (fB .Eq) rEq:=by
 k_dat (y,u,ry) "i"
 obtain⟨hs,q⟩:=h;cases x with
 |non =>
  cases rx;cases y with
  |non=>cases ry;exact atk (cU I q (by simp))
  |bl j=>cases ry;exact atl (cU I q (by simp))
  |int j=>obtain⟨t',rfl⟩:=ry;exact atq (cU I q (by simp))
  |str j=>obtain⟨t',rfl⟩:=ry;exact atr (cU I q (by simp))
  |_=>exact mM (show false=true from hs) gM
 |bl i =>
  cases rx;cases y with
  |non=>cases ry;exact atm (cU I q (by simp))
  |bl j=>cases ry;exact eq_bool (cU I q am2)
  |str j=>obtain⟨t',rfl⟩:=ry;exact atA (cU I q (by simp))
  |_=>exact mM (show false=true from hs) gM
 |int i =>
  k_dat (t,rx) "y"
  cases y with
  |non=>cases ry;exact atu (cU I q (by simp))
  |int j=>obtain⟨t',rfl⟩:=ry;exact eq_int (cU I q ahw)
  |str j=>obtain⟨t',rfl⟩:=ry;exact atF (cU I q (by simp))
  |_=>exact mM (show false=true from hs) gM
 |str i =>
  k_dat (t,rx) "y"
  cases y with
  |non=>cases ry;exact atv (cU I q (by simp))
  |bl j=>cases ry;exact atB (cU I q (by simp))
  |int j=>obtain⟨t',rfl⟩:=ry;exact atG (cU I q (by simp))
  |str j=>obtain⟨t',rfl⟩:=ry;exact eq_str (cU I q ahx)
  |_=>exact mM (show false=true from hs) gM
 |byt i =>
  k_dat (t,rx) "y"
  cases y with
  |byt j=>obtain⟨t',rfl⟩:=ry;exact PySem.W.eq_bytes (cU I q ahy)
  |_=>exact mM (show false=true from hs) gM
 |_=>cases y <;> exact mM (show false=true from hs) gM
theorem op_ne:OpR X (fB .NotEq) rNe:=by
 k_dat (y,u,ry) "i"
 obtain⟨hs,q⟩:=h;cases x with
 |non =>
  cases rx;cases y with
  |non=>cases ry;exact atn (cU I q (by simp))
  |bl j=>cases ry;exact ato (cU I q (by simp))
  |int j=>obtain⟨t',rfl⟩:=ry;exact atw (cU I q (by simp))
  |str j=>obtain⟨t',rfl⟩:=ry;exact atx (cU I q (by simp))
  |_=>exact mM (show false=true from hs) gM
 |bl i =>
  cases rx;cases y with
  |non=>cases ry;exact atp (cU I q (by simp))
  |bl j=>cases ry;exact ne_bool (cU I q (mN not am2))
  |str j=>obtain⟨t',rfl⟩:=ry;exact atD (cU I q (by simp))
  |_=>exact mM (show false=true from hs) gM
 |int i =>
  k_dat (t,rx) "y"
  cases y with
  |non=>cases ry;exact aty (cU I q (by simp))
  |int j=>obtain⟨t',rfl⟩:=ry;exact ne_int (cU I q (mN not ahw))
  |str j=>obtain⟨t',rfl⟩:=ry;exact atH (cU I q (by simp))
  |_=>exact mM (show false=true from hs) gM
 |str i =>
  k_dat (t,rx) "y"
  cases y with
  |non=>cases ry;exact atz (cU I q (by simp))
  |bl j=>cases ry;exact atE (cU I q (by simp))
  |int j=>obtain⟨t',rfl⟩:=ry;exact atJ (cU I q (by simp))
  |str j=>obtain⟨t',rfl⟩:=ry;exact ne_str (cU I q (mN not ahx))
  |_=>exact mM (show false=true from hs) gM
 |byt i =>
  k_dat (t,rx) "y"
  cases y with
  |byt j=>obtain⟨t',rfl⟩:=ry;exact PySem.W.ne_bytes (cU I q (mN not ahy))
  |_=>exact mM (show false=true from hs) gM
 |_=>cases y <;> exact mM (show false=true from hs) gM
theorem arH:OpR X (fB .Lt) (rI0 fun i j=>.bl (decide (i<j))):=opB0 fun _ _ _ _ _ _ _ q=>lt_int q
theorem op_le:OpR X (fB .LtE) (rI0 fun i j=>.bl (decide (i<=j))):=opB0 fun _ _ _ _ _ _ _ q=>le_int q
theorem arI:OpR X (fB .Gt) (rI0 fun i j=>.bl (decide (j<i))):=opB0 fun _ _ _ _ _ _ _ q=>gt_int q
theorem am3:OpR X (fB .GtE) (rI0 fun i j=>.bl (decide (j<=i))):=opB0 fun _ _ _ _ _ _ _ q=>ge_int q
theorem aut:OpR X (fB .Is) (fun x y H Q=>y=.non/\Q (.bl (decide (x=.non))) H):=by
 k_dat (y,u,ry) "i"
 obtain⟨rfl,q⟩:=h;cases ry;refine is_none_gen (cU I q ?_);cases x <;> first
  |(cases rx;rfl)
  |(obtain⟨t,rfl⟩:=rx;rfl)
theorem ZV:OpR X (fB .IsNot) (fun x y H Q=>y=.non/\Q (.bl (!decide (x=.non))) H):=by
 k_dat (y,u,ry) "i"
 obtain⟨rfl,q⟩:=h;cases ry;refine isnot_none_gen (cU I q ?_);cases x <;> first
  |(cases rx;rfl)
  |(obtain⟨t,rfl⟩:=rx;rfl)
theorem Ea(b:Expr)(h:op≠.In:=by decide)(h2:op≠.NotIn:=by decide):Yp op b=false:=by
 have e1:(op == CmpOp.In)=false:=by cases op <;> first|rfl|exact mM rfl h
 have e2:(op == CmpOp.NotIn)=false:=by cases op <;> first|rfl|exact mM rfl h2
 cases b <;> simp[Yp,e1,e2]
theorem Oj(ho:OpR X (fB op) r)(ha:PE X a ta)(hb:PE X b tb)(hm:Yp op b=false):PE X (.Compare a [op] [b] pos) (tOp r ta tb):=by
 k_dat (Q,h) "g"
 exact wpAny_Compare1 (binT ha hb I h fun v u s2 x y H2 I2 rx ry q=>ho pins s2 σ H2 x y v u Q I2 rx ry q) hm
inductive RB (x:V) (H:Hp) (Q:Bool->Hp->Prop):Prop
 |k (b:Bool):x=.bl b->Q b H->RB x H Q
@[reducible] def am4(t:TE):TT:=fun σ H Q=>t σ H fun x H'=>RB x H' Q
theorem Ga(ho:OpR X (fB op) r)(ha:PE X a ta)(hb:PE X b tb)(hm:Yp op b=false):PT X (.Compare a [op] [b] pos) (am4 (tOp r ta tb)):=by
 k_dat (Q,h) "g"
 refine wpAny_isTrue_Compare1 (thn (ha pins s σ H _ I h) fun v s1 ⟨x,H1,I1,r1,q1⟩=>thn (hb pins s1 σ H1 _ I1 q1) fun u s2 ⟨y,H2,I2,r2,q2⟩ =>
  thn (ho pins s2 σ H2 x y v u _ I2 r1 r2 q2) fun c s3 ⟨z,H3,I3,r3,k,e,q3⟩=>?_) hm
 subst e;cases r3;exact CT #[H3,I3,q3]
def auu(r r':R2)(ta tb tc:TE):TE:=fun σ H Q=>ta σ H fun x H1=>tb σ H1 fun y H2=>r x y H2 fun z H3=>∃k,z=.bl k /\
 (if k=true then tc σ H3 fun w' H4=>r' y w' H4 Q else Q (.bl false) H3)
theorem abO(ho:OpR X (fB op) r)(ho':OpR X (fB op') r')(ha:PE X a ta)(hb:PE X b tb)(hc:PE X c tc)
  (hm:lastMarks [op,op'] [b,c]=false:=by with_unfolding_all rfl):PE X (.Compare a [op,op'] [b,c] pos) (auu r r' ta tb tc):=by
 k_dat (Q,h) "g"
 refine Compare_chain (thn (ha pins s σ H _ I h) fun v s1 ⟨x,H1,I1,r1,q1⟩=>chain_link (thn (hb pins s1 σ H1 _ I1 q1) fun u s2 ⟨y,H2,I2,r2,q2⟩ =>
  thn (ho pins s2 σ H2 x y v u _ I2 r1 r2 q2) fun d s3 ⟨z,H3,I3,r3,k,e,q3⟩=>?_)) hm
 subst e;cases r3;refine CT ?_;cases k with
 |false=>exact ite_ff #[.bl false,H3,I3,rfl,q3]
 |true=>exact ite_tt (chain_last (thn (hc pins s3 σ H3 _ I3 q3) fun w' s4 ⟨z',H4,I4,r4,q4⟩=>ho' pins s4 σ H4 y z' u w' Q I4 r2 r4 q4))
theorem QL:(sizeLine:Nat)<2 ^ 63:=by rw[Yq];decide
theorem iI:OpR X (mZ .Add) (fun x y H Q=>∃i j,x=.str i/\y=.str j/\i.length+j.length<=sizeLine/\Q (.str (i++j)) H):=by
 k_dat (y,u,ry) "i"
 obtain⟨i,j,rfl,rfl,hz,q⟩:=h
 k_dat (t,rx) "y"
 k_dat (t',ry) "y"
 exact add_str (fun t' tk=>#[.str (i++j),H,I.tok _,#[_,rfl],q]) hz
theorem vals1(r:Vals [x] us):∃u,us=[u]/\RelV x u:=by
 cases r with
 |cons r1 r2=>cases r2;show#[_,rfl,r1]
theorem vals2(r:Vals [x,y] us):∃u w',us=[u,w']/\RelV x u/\RelV y w':=by
 cases r with
 |cons r1 r2 =>
  cases r2 with
  |cons r3 r4=>cases r4;show#[_,_,rfl,r1,r3]
theorem V9(hc:X.calm=true):gA X (.builtin "max") (fun xs H Q=>∃i j,xs=[.int i,.int j]/\Q (.int (if j>i then j else i)) H):=by
 walk_at "l"
 obtain⟨i,j,rfl,q⟩:=h;obtain⟨u,w',rfl,⟨t,rfl⟩,⟨t',rfl⟩⟩:=vals2 r;refine max_two_ints (I.ok.hd hc) fun h' tk k=>#[_,H,I.kept k,?_,q];by_cases hj:j>i
 ·rw[mI hj,mI hj];show#[_,rfl]
 ·rw[mB hj,mB hj];show#[_,rfl]
theorem ZW:gA X (.type "str") (fun xs H Q=>∃i,xs=[.int i]/\i.natAbs.log2<1920/\Q (.str (toString i)) H):=by
 walk_at "l"
 obtain⟨i,rfl,hz,q⟩:=h;obtain⟨u,rfl,t,rfl⟩:=vals1 r;exact PySem.P.str_of_int hz #[.str _,H,I.tok _,#[_,rfl],q]
def LenV(K:aH)(x:V)(H:Hp)(n:Nat):Prop:=
 match x with
 | .str y=>y.length<=sizeLine/\n=y.length
 | .byt y=>y.size<=sizeLine/\n=y.size
 | .ref p=>(∃xs,SqL K H p xs/\n=xs.length)\/∃xs,SqT K H p xs/\n=xs.length
 |_=>False
theorem am5:gA X (.builtin "len") (fun xs H Q=>∃x n,xs=[x]/\LenV X.K x H n/\Q (.int n) H):=by
 walk_at "l"
 obtain⟨x,n,rfl,e,q⟩:=h;obtain⟨u,rfl,rx⟩:=vals1 r;have hl:=QL;have hs:sizeLine=16777216:=Yq;cases x with
 |str y =>
  k_dat (t,rx) "y"
  obtain⟨hy,e'⟩:y.length<=sizeLine/\n=y.length:=e;subst e';exact len_str tb_g% #[.int _,H,I.tok _,#[_,rfl],q]
 |byt y =>
  k_dat (t,rx) "y"
  obtain⟨hy,e'⟩:y.size<=sizeLine/\n=y.size:=e;subst e';exact PySem.W.len_bytes tb_g% #[.int _,H,I.tok _,#[_,rfl],q]
 |ref p =>
  cases rx;have e':(∃xs,SqL X.K H p xs/\n=xs.length)\/∃xs,SqT X.K H p xs/\n=xs.length:=e;rcases e' with⟨xs,hx,e'⟩|⟨xs,hx,e'⟩
  ·subst e';obtain⟨its,r',pl,hz⟩:=I.list hx;have hlen:=r'.length;exact Calls.call_len_list pl.isList (by simp only[bG];lia) #[.int xs.length,H,I.tok _,#[_,by simp only[bG];rw[hlen]],q]
  ·subst e';obtain⟨its,r',pl,hz⟩:=I.tuple hx;have hlen:=r'.length;exact len_tuple pl (by simp only[bG];lia) #[.int xs.length,H,I.tok _,#[_,by simp only[bG];rw[hlen]],q]
 |_=>exact(show False from e).elim
end
structure afK(h:Heap)(x dx C:Addr)(mA:Str->Option Value):Prop where
 obj:h.get? x=some (zu C dx)
 ns:h.Ns1 dx mA
 ne:dx≠x
theorem aiK{h:Heap}(n:h.Ns1 dx mA):∃od,h.get? dx=some od/\∀name,YJ name od=some (mA name):=by
 obtain⟨o,es,ep,ho,hd,hk,_,hm⟩:=n;show#[o,ho,fun name=>?_];have e:=hm name;unfold nsFind findBy at e;rw[<-Array.find?_toList]at e;unfold YJ;rw[hd];dsimp only;split
 ·rename_i y q;rw[q]at e;exact mN some e
 ·rename_i q;rw[q]at e;have a:es.toList.any (·.refKey)=false:=by
   rw[List.any_eq_false];intro y hy;obtain⟨z,t,hkey⟩:=hk y (alP.mp hy);simp[at7,hkey]
  have a':¬ es.toList.any (·.refKey)=true:=by rw[a];exact gM
  rw[mB a'];exact mN some e
theorem afK.look(I:afK h x dx C mA):∃od,PySem.W.InstAt h x (zu C dx) C (some od)/\∀name,YJ name od=some (mA name):=
 let ⟨od,ho,hl⟩:=aiK I.ns
 #[od,#[I.obj,rfl,rfl,ho],hl]
section
variable{A:aU}{s:Shared}{K:aH}{x dx C f:Addr}{name:Str}
theorem get_map(X:K.In s.heap)(I:afK s.heap x dx C mA)(hg:Je K C name=true)(hh:PJ K C=true)
  (ha:mH K (.ref C) name=some none) (hv:mA name=some v) (hv':ak6 v=true) (h:Q v { s with toks:=s.toks+1 }):
  wpAny (model prog w) A (getAttr (.ref x) name expr) Q E s:=by
 obtain⟨od,J,hl⟩:=I.look;exact PySem.W.get_value X J (aew hg).1 (PySem.W.findObj_own hh ha rfl (by rw[hl,hv])) hv' h
theorem am6(X:K.In s.heap)(I:afK s.heap x dx C mA)(hg:Je K C name=true)
  (hf:mH K (.ref C) name=some (some (.ref f))) (ht:PL K (.ref f)=true) (hv:mA name=none) (h:Q (.ref f,[.ref x]) s):
  wpAny (model prog w) A (Yu (.ref x) name pl) Q E s:=by
 obtain⟨od,J,hl⟩:=I.look;exact PySem.W.method_fn X J (aew hg).1 (aew hg).2 hf (beq_iff_eq.mp ht) (by show(YJ name od).map (·.isSome)=some false;rw[hl,hv];rfl) h
theorem apW(X:K.In s.heap)(I:afK s.heap x dx C mA)
  (hs:mH K (.ref C) "__setattr__" = some (some (.builtin "object.__setattr__"))) (hp:YG K C=true) (ht:aez K C name=some none) (hh:PJ K C=true)
  (hw:aei mA ns) (hsz:ns.length<=sizeLine)
  (h:∀h',afK h' x dx C (fun y=>if y=name then some v else mA y)->lF dx s.heap h'->Q () { s with heap:=h',toks:=s.toks+2 }):
  wpAny (model prog w) A (setAttr (.ref x) name v) Q E s:=by
 obtain⟨od,J,hl⟩:=I.look;refine PySem.W.set_plain X J hs (PySem.W.osa_open (s:={ s with toks:=s.toks+1 }) (r:=none) X J hp ht fun b=>?_);obtain⟨cd,hc,hd'⟩:=PySem.W.any_some hh;have hx:s⁻¹ x=some #[.ref C,some dx,.plain,#[]]:=I.obj;refine aA (aF (aA (aA (wpAny_loadPart hx (aA (at4 (s:={ s with toks:=s.toks+1 }) (PySem.W.looks_clsIn X hc) ?_))))));rw[hd'];refine aF (a:=some dx) (aA (aF (aA ?_)));refine wpAny_nsSet1 (s:={ s with toks:=s.toks+1 }) I.ns fun h' hn2 hs2=>?_;obtain⟨oD,esD,epD,hoD,hdD,hcD⟩:=hn2.count (at5 name v hw);refine aA (wpAny_lookBehind hoD (by rw[hdD];exact pastItsLine_dict (cW hcD (by rw[cD];lia))) ?_);exact aF (h _ #[(hs2.2 _ (aL I.ne)).trans I.obj,hn2,I.ne] hs2)
theorem am7(X:K.In s.heap)(hm:YH K C=true)
  (hi:mH K (.ref C) "__init__" = some (some (.ref f))) (hf:PySem.W.typeIn K (.ref f)=some (.type "function"))
  (h:fY (model prog w) (A.under (.builtin "type.__call__" #[.ref C::vs,kw])) (.call (.ref f) #[.ref (~~~s+1)::vs,kw]) (PySem.W.InitBack (~~~s+1) R)
   { s with heap:=(s.heap.push vC).push (zu C (~~~s)) }) :
  fY (model prog w) A (.call (.ref C) #[vs,kw]) R s:=by
 obtain⟨hh,g,d,t,os⟩:=s;exact PySem.W.make_core (PySem.W.makes_of X hm) (PySem.W.looks_findIn X hi) (fun self=>PySem.W.bind_fn X self hf) (.inl rfl) h
end
def bZ(f:Str)(v:V):List (Str × V)->List (Str × V)
 |[]=>[(f,v)]
 |(g,x)::r=>if g=f then(g,v)::r else(g,x)::bZ f v r
theorem Ld(f g:Str)(v:V):∀fs:List (Str × V),(bZ f v fs).lookup g=if g=f then some v else fs.lookup g
 |[]=>by
  show CQ g [(f,v)]=_;by_cases h:g=f
  ·have hb:(g == f)=true:=beq_iff_eq.mpr h;simp only[CQ,hb,mI h]
  ·have hb:(g == f)=false:=xk.mpr h;simp only[CQ,hb,mB h]
 |(k,x)::r=>by
  have ih:=Ld f g v r;rw[show bZ f v ((k,x)::r)=(if k=f then(k,v)::r else(k,x)::bZ f v r)from rfl];by_cases hk:k=f
  ·rw[mI hk];by_cases h:g=k
   ·have hb:(g == k)=true:=beq_iff_eq.mpr h;simp only[CQ,hb,mI (h.trans hk)]
   ·have hb:(g == k)=false:=xk.mpr h;simp only[CQ,hb,mB (fun e:g=f=>h (e.trans hk.symm))]
  ·rw[mB hk];by_cases h:g=k
   ·have hb:(g == k)=true:=beq_iff_eq.mpr h;simp only[CQ,hb,mB (fun e:g=f=>hk (h.symm.trans e))]
   ·have hb:(g == k)=false:=xk.mpr h;simp only[CQ,hb];exact ih
theorem JF(f:Str)(v:V):∀fs:List (Str × V),f∈(bZ f v fs).map (·.1)/\∀g,g∈fs.map (·.1)->g∈(bZ f v fs).map (·.1)
 |[]=>#[by simp[bZ],fun g h=>by simp at h]
 |(k,x)::r=>by
  obtain⟨i1,i2⟩:=JF f v r;rw[show bZ f v ((k,x)::r)=(if k=f then(k,v)::r else(k,x)::bZ f v r)from rfl];by_cases hk:k=f
  ·rw[mI hk];subst hk;show#[by simp,fun g h=>by simpa using h]
  ·rw[mB hk];show#[?_,fun g h=>?_]
   ·rw[cR];exact cF _ i1
   ·rw[cR]at h ⊢;rcases aP.mp h with e|e
    ·exact aP.mpr (.inl e)
    ·exact cF _ (i2 g e)
theorem Le(f:Str)(v:V):∀fs:List (Str × V),(bZ f v fs).length<=fs.length+1
 |[]=>by simp[bZ]
 |(k,x)::r=>by
  have ih:=Le f v r;rw[show bZ f v ((k,x)::r)=(if k=f then(k,v)::r else(k,x)::bZ f v r)from rfl];by_cases hk:k=f
  ·rw[mI hk,cD,cD];lia
  ·rw[mB hk,cD,cD];lia
theorem yL.some_of(r:yL (some v) o):∃u,o=some u/\RelV v u:=by
 cases o with
 |none=>exact(show False from r).elim
 |some u=>show#[u,rfl,r]
theorem yL.none_of(r:yL none o):o=none:=by
 cases o with
 |none=>rfl
 |some u=>exact(show False from r).elim
theorem aiL(r:RelV v u):ak6 u=true:=by
 cases v with
 |non=>cases (show u=Value.none from r);rfl
 |bl b=>cases (show u=Value.bool b from r);rfl
 |int i=>obtain⟨t,e⟩:=(show ∃t,u=Value.int i t from r);cases e;rfl
 |str x=>obtain⟨t,e⟩:=(show ∃t,u=Value.str x t from r);cases e;rfl
 |byt b=>obtain⟨t,e⟩:=(show ∃t,u=Value.bytes b t from r);cases e;rfl
 |flt b=>obtain⟨t,e⟩:=(show ∃t,u=Value.float b t from r);cases e;rfl
 |ref a=>cases (show u=Value.ref a from r);rfl
 |ty n=>cases (show u=Value.type n from r);rfl
section
variable{H H':Hp}{h h':Heap}{a C dx:Addr}
theorem ZX(hok:HOk P w H h)(e:H a=some (.ins C dx fs)):∃mA,afK h a dx C mA/\(∀f,yL (fs.lookup f) (mA f))/\aei mA (fs.map (·.1))/\fs.length<=1000/\H dx=some (.own a):=by
 obtain⟨d,z,ne,ob,mA,n,r,q⟩:=(show dD P w H h a (.ins C dx fs)from hok a _ e);show#[mA,#[ob,n,ne],r,q,z,d]
end
structure Cls(K:aH)(C:Addr):Prop where
 pg:Je K C aeB=true
 hd:PJ K C=true
 po:YG K C=true
 sa:mH K (.ref C) "__setattr__" = some (some (.builtin "object.__setattr__"))
theorem Cls.get{K:aH}(c:Cls K C)(f:Str):Je K C f=true:=c.pg
def cB(K:aH)(C:Addr)(f:Str):Prop:=mH K (.ref C) f=some none
theorem cB.taker{K:aH}(n:cB K C f):aez K C f=some none:=by
 unfold aez;rw[show mH K (.ref C) f=some none from n];rfl
structure Con(K:aH)(C:Addr)(f:Str)(v:V)(u:Value):Prop where
 at_:mH K (.ref C) f=some (some u)
 rel:RelV v u
 get:ak5 K u "__get__" = some none
 cp:PySem.W.copiedNames.contains f=false
structure Meth(K:aH)(C:Addr)(m:Str)(f:Addr):Prop where
 at_:mH K (.ref C) m=some (some (.ref f))
 fn:PL K (.ref f)=true
 kp:rZ K (.ref f)=true
section
variable{X:Cx}{σ:St}{H:Hp}{s:Shared}{a C dx:Addr}{A:aU}
theorem afL(I:Inv X pins σ H s)(e:H a=some (.ins C dx fs))(c:Cls X.K C)(n:cB X.K C f)(l:fs.lookup f=some v)
  (h:∀u s',Inv X pins σ H s'->RelV v u->Q u s'):wpAny (model X.prog X.w) A (getAttr (.ref a) f b) Q E s:=by
 obtain⟨mA,O,r,_,_,_⟩:=ZX I.hok e;obtain⟨u,hu,ru⟩:=yL.some_of (v:=v) (o:=mA f) (by rw[<-l];exact r f);exact get_map I.kIn O (c.get f) c.hd n hu (aiL ru) (h u _ (I.tok _) ru)
theorem afM(I:Inv X pins σ H s)(e:H a=some (.ins C dx fs))(c:Cls X.K C)(k:Meth X.K C m g)(l:fs.lookup m=none)
  (h:Q (.ref g,[.ref a]) s):wpAny (model X.prog X.w) A (Yu (.ref a) m pl) Q E s:=by
 obtain⟨mA,O,r,_,_,_⟩:=ZX I.hok e;have hn:mA m=none:=yL.none_of (by rw[<-l];exact r m);exact am6 I.kIn O (c.get m) k.at_ k.fn hn h
theorem afN(I:Inv X pins σ H s)(e:H a=some (.ins C dx fs))(c:Cls X.K C)(n:cB X.K C f)(hl:fs.length<1000)(ry:RelV y u)
  (h:∀s',Inv X pins σ (upd H a (.ins C dx (bZ f y fs))) s'->Q () s'):wpAny (model X.prog X.w) A (setAttr (.ref a) f u) Q E s:=by
 obtain⟨mA,O,r,wi,_,ho⟩:=ZX I.hok e;have hz:(fs.map (·.1)).length<=sizeLine:=by rw[aD,Yq];lia
 refine apW I.kIn O c.sa c.po n.taker c.hd wi hz fun h' O' sb=>h _ ?_;have hd:∃o,h'.get? dx=some o:=let ⟨o,_,_,e',_⟩:=O'.ns;#[o,e'];refine I.write (x:=a) (e:=dx) (by rw[e];exact True.intro) (.inr ho) (fun b q hb z=>(sb.2 b hb).trans z) hd ?_;show#[by rwa[ao O.ne],?_,O.ne,O'.obj,_,O'.ns,fun g=>?_,fun g hg=>?_]
 ·have:=Le f y fs;lia
 ·show yL ((bZ f y fs).lookup g) (if g=f then some u else mA g);rw[Ld];by_cases q:g=f
  ·rwa[mI q,mI q]
  ·rw[mB q,mB q];exact r g
 ·by_cases q:g=f
  ·rw[q];exact(JF f y fs).1
  ·refine(JF f y fs).2 g (wi g fun z=>hg ?_);show(if g=f then some u else mA g)=none;rwa[mB q]
theorem Inv.made(I:Inv X pins σ H s):Inv X pins σ (upd (upd H (~~~s) (.own (~~~s+1))) (~~~s+1) (.ins C (~~~s) []))
  { s with heap:=(s.heap.push vC).push (zu C (~~~s)) }:=by
 have e1:(s.heap.push vC).get? (~~~s)=some vC:=cJ s.heap rfl;have e2:((s.heap.push vC).push (zu C (~~~s))).get? (~~~s+1)=some (zu C (~~~s)):=by
  have:=cJ (s.heap.push vC) (o:=zu C (~~~s)) rfl
  rwa [pQ]at this
 have e3:(s.heap.push vC).Ns (~~~s) (fun _=>none):=#[vC,#[],_,e1,rfl,(fun e he=>mM he (by simp)),fun _=>rfl];have I1:=I.laid (a:= ~~~s) (o:=.own (~~~s+1)) (h':=s.heap.push vC) (t':=s.toks) (fun b u q=>cH _ q) (aK _) #[_,e1];refine I1.laid (a:= ~~~s+1) (o:=.ins C (~~~s) []) (t':=s.toks) (fun b u q=>cH _ q) (Qa (pQ _ _)) ?_;have ne: ~~~s≠ ~~~s+1:=bJ (sH _);show#[by rw[ao ne,aj],cg _,ne,e2,fun _=>none,(at6 e3).at fun o q=>cH _ q,fun _=>True.intro,fun y hy=>mM rfl hy]
theorem apY(hb:yW e f env (eval e env)=eval e env)
  (h:wpAny (model prog w) A (eval e env) (fun o s₁=>wpAny (model prog w) A (getAttr o f true) Q E s₁) E s):wpAny (model prog w) A (eval (.Attribute e f pos) env) Q E s:=
 Attribute_any_ h (by rw[arm_eval_Attribute,hb])
end
def rFld(K:aH)(f:Str)(x:V)(H1:Hp)(Q:VK):Prop:=∃a C dx fs v,x=.ref a/\H1 a=some (.ins C dx fs)/\Cls K C/\cB K C f/\fs.lookup f=some v/\Q v H1
@[reducible] def abP(K:aH)(ta:TE)(f:Str):TE:=fun σ H Q=>ta σ H fun x H1=>rFld K f x H1 Q
def sFld(K:aH)(ta tv:TE)(f:Str):TS:=fun D σ H=>tv σ H fun y H1=>ta σ H1 fun x H2=>∃a C dx fs,x=.ref a/\H2 a=some (.ins C dx fs)/\Cls K C/\cB K C f/\fs.length<1000 /\
 D.nx σ (upd H2 a (.ins C dx (bZ f y fs)))
section
variable{X:Cx}{o e value:Expr}{pos pos' tpos:Pos}
theorem am8(he:PE X e ta)(hb:yW e f X.env (eval e X.env)=eval e X.env):PE X (.Attribute e f pos) (abP X.K ta f):=by
 k_dat (Q,h) "g"
 refine apY hb (thn (he pins s σ H _ I h) fun u s1 zq=>?_);obtain⟨x,H1,I1,rx,a,C,dx,fs,v,ex,ea,c,n,l,q⟩:=zq;subst ex;obtain rfl:u=Value.ref a:=rx;exact afL I1 ea c n l fun u' s2 I2 ru=>#[v,H1,I2,ru,q]
theorem auv(ha:PE X o ta)(hv:PE X value tv)(hs:Ja value (some (.Attribute o f pos')) pos.line X.env=pure false):PS X (.Assign [.Attribute o f pos'] value pos) (sFld X.K ta tv f):=by
 k_dat (D,h) "g"
 refine plainObj_wpAny_Assign_Attribute (thn (hv pins s σ H _ I h) fun u s1 ⟨y,H1,I1,ry,q⟩=>thn (ha pins s1 σ H1 _ I1 q) fun ov s2 zq=>?_) hs;obtain⟨x,H2,I2,rx,a,C,dx,fs,ex,ea,c,n,l,q2⟩:=zq;subst ex;obtain rfl:ov=Value.ref a:=rx;exact afN I2 ea c n l ry fun s3 I3=>#[σ,_,I3,q2]
end
section
variable{X:Cx}{σ:St}{H:Hp}{s:Shared}{A:aU}{Q:Value->Shared->Prop}{b:Bool}
inductive QM (K:aH) (H:Hp):V->Value->Prop where
 |non:QM K H .non (.type "NoneType")
 |bl (x:Bool):QM K H (.bl x) (.type "bool")
 |int (i:Int):QM K H (.int i) (.type "int")
 |str (x:Str):QM K H (.str x) (.type "str")
 |flt (x:UInt64):QM K H (.flt x) (.type "float")
 |lst {a:Addr} {xs:List V} (e:H a=some (.lst xs)):QM K H (.ref a) (.type "list")
 |frz {a:Addr} {o:Obj} {xs:List V} (e:H a=some (.frz o (.lst xs))):QM K H (.ref a) (.type "list")
 |tup {a:Addr} {xs:List V} (e:H a=some (.tup xs)):QM K H (.ref a) (.type "tuple")
 |dK {a:Addr} {kvs:List (Key × V)} (e:H a=some (.dK kvs)):QM K H (.ref a) (.type "dict")
 |dT {a:Addr} {kvs:List (List Key × V)} (e:H a=some (.dT kvs)):QM K H (.ref a) (.type "dict")
 |ins {a C dx:Addr} {fs:List (Str × V)} (e:H a=some (.ins C dx fs)) (cl:Cls K C) (ha:mH K (.ref C) "__class__" = some (some (.builtin "object.__class__")))
   (hn:ak5 K (.builtin "object.__class__") "__get__" = some (some (.builtin "getset_descriptor.__get__"))) (htk:PySem.W.takesIn K (.builtin "object.__class__")=some true)
   (hm:PySem.W.mroIn K C (.type "object")=some true):QM K H (.ref a) (.ref C)
end
structure iU(k:Nat)(A:aU):Prop where
 hd:A.handled=none
 dp:A.depth+3*k+5<recursionLimit
 un:A.units+16*k+200<cLine
theorem iU.mono(r:iU k A)(h:j<=k):iU j A:=#[r.hd,by have:=r.dp;lia,by have:=r.un;lia]
theorem iU.deeper(r:iU (k+1) A)(env:Env):iU k (A.deeper env):=
 #[r.hd,by have:=r.dp;show A.depth+1+3*k+5<_;lia,by have:=r.un;show A.units+3+16*k+200<_;lia]
theorem iU.in1(r:iU (k+1) A):iU k A.in1:=
 #[r.hd,by have:=r.dp;show A.depth+3*k+5<_;lia,by have:=r.un;show A.units+1+16*k+200<_;lia]
theorem afO{A:aU}:(A.under (.builtin "type.__call__" #[.ref C::us,kw])).depth=A.depth+1:=by
 first|rfl|simp[afb,Code.weight,Code.isCreation,Code.isGuard,Code.isCaller,amx,aft,guardIds]
theorem afP{A:aU}:(A.under (.builtin "type.__call__" #[.ref C::us,kw])).units=A.units+1:=by
 first|rfl|simp[afb,Code.cUnits,amx,aft]
theorem iU.make(r:iU (k+1) A)(C:Addr)(us:List Value)(kw:List (Str × Value)):iU k (A.under (.builtin "type.__call__" #[.ref C::us,kw])):=
 #[r.hd,by have:=r.dp;rw[afO];lia,by have:=r.un;rw[afP];lia]
theorem iU.depth(r:iU k A):A.depth<recursionLimit:=by have:=r.dp;lia
theorem iU.units(r:iU k A):A.units+64<cLine:=by have:=r.un;lia
@[reducible] def aiM:TA:=fun _ H Q=>Q [] H
@[reducible] def Lf(ta:TE)(tr:TA):TA:=fun σ H Q=>ta σ H fun x H1=>tr σ H1 fun xs H2=>Q (x::xs) H2
section
variable{X:Cx}{e:Expr}{es:List Expr}{te:TE}{t:TA}{pos:Pos}
theorem fO:PA X [] aiM:=fun _ _ _ _ H Q I h=>zJ #[[],H,I,.nil,h]
theorem bV(ha:PE X e te)(hr:PA X es t)(hs:cj (e::es) X.env=(false,eval e X.env)::cj es X.env:=by rfl):PA X (e::es) (Lf te t):=by
 intro pos pins s σ H Q I h;rw[hs];show wpAny _ _ (spliced ((false,eval e X.env)::fK pos (cj es X.env))) _ _ s
 k_dat (vI,ha,u) "v"
 walk_at "s"
 exact thn (hr pos pins s1 σ H1 _ I1 q1) fun us s2 ⟨xs,H2,I2,r2,q2⟩=>#[x::xs,H2,I2,.cons r1 r2,q2]
def tTup(t:TA):TE:=fun σ H Q=>t σ H fun xs H1=>xs.length<=sizeLine/\∀p,H1 p=none->Q (.ref p) (upd H1 p (.tup xs))
def tLst(t:TA):TE:=fun σ H Q=>t σ H fun xs H1=>xs.length<=sizeLine/\∀p,H1 p=none->Q (.ref p) (upd H1 p (.lst xs))
theorem afQ{x1}(h:PA X es t):PE X (.Tuple es x1 pos) (tTup t):=by
 k_dat (Q,hq) "g"
 refine wpAny_Tuple_spliced (thn (h pos pins s σ H _ I hq) fun us s1 ⟨xs,H1,I1,r,z,q⟩=>#[by rwa[<-r.length],?_]);have hf:H1 (~~~s1)=none:=I1.hok.fresh (aK _);show#[.ref (~~~s1),upd H1 (~~~s1) (.tup xs),I1.laid (t':=s1.toks) (fun b u e=>cH _ e) (aK _) ?_,rfl,q _ hf];show#[z,us,r,#[_,cJ _ rfl,rfl,_,rfl]]
theorem auw(h:PA X es t):PE X (.List es pos) (tLst t):=by
 k_dat (Q,hq) "g"
 refine wpAny_List_spliced (thn (h pos pins s σ H _ I hq) fun us s1 ⟨xs,H1,I1,r,z,q⟩=>#[by rwa[<-r.length],?_]);have hf:H1 (~~~s1)=none:=I1.hok.fresh (aK _);show#[.ref (~~~s1),upd H1 (~~~s1) (.lst xs),I1.laid (t':=s1.toks) (fun b u e=>cH _ e) (aK _) ?_,rfl,q _ hf];show#[z,us,0,r,cJ _ rfl]
end
abbrev Sp:=List V->Hp->VK->XK->Prop
abbrev CXT:=List Env->Hp->Shared->XK->Value->Shared->Prop
structure Uw(P:aN)(w:World)(K:aH)(mg:Str->Option Value)(base:Heap)(A:aU)(outer:List Env)(s:Shared)(H:Hp):Prop where
 frames:A.frames=some outer
 mod:Mod K mg base
 bs:∀b o,base.get? b=some o->s⁻¹ b=some o/\H b=none
 bsz:base.objs.size<= ~~~s
 JC:s.heap.FunFrames base outer
 frf:∀b∈frs outer,H b=none
 hok:HOk P w H s.heap
 bare:zF s.gens
def CE(outer:List Env)(P:aN)(w:World)(H:Hp)(s:Shared)(Q:VK)(u:Value)(s':Shared):Prop:=
 ∃v H',s'.os=s.os/\zF s'.gens/\Un (frs outer) [] H H' s.heap s'.heap/\HOk P w H' s'.heap/\RelV v u/\Q v H'
def CR(CX:CXT)(outer:List Env)(P:aN)(w:World)(H:Hp)(s:Shared)(Q:VK)(E:XK)(r:lC)(s':Shared):Prop:=
 match r with
 | .ok (.ret u)=>CE outer P w H s Q u s'
 | .ok _=>False
 | .error e=>CX outer H s E e s'
structure wg(P:aN)(w:World)(K:aH)(mg:Str->Option Value)(base:Heap)(CX:CXT)(k:Nat)(f:Addr)(fd:FuncData)(ps:List Str)(sp:Sp):Prop where
 len:∀vs H Q E,sp vs H Q E->vs.length=ps.length
 run:∀(A:aU)(outer:List Env)(s:Shared)(H:Hp)(args:Args)(us:List Value)(vs:List V)(Q:VK)(E:XK),iU k A->Uw P w K mg base A outer s H->Jc s fd args (ps.zip us)->Vals vs us->sp vs H Q E ->
  fY (model P w) A (.call (.ref f) args) (CR CX outer P w H s Q E) s
theorem wg.imp{K:aH}(F:wg P w K mg base CX k f fd ps sp)
  (h:∀vs H Q E,sp' vs H Q E->sp vs H Q E):wg P w K mg base CX k f fd ps sp':=
 #[fun vs H Q E q=>F.len vs H Q E (h _ _ _ _ q),fun A outer s H args us vs Q E hr he hb hv hs=>F.run A outer s H args us vs Q E hr he hb hv (h _ _ _ _ hs)]
theorem Uw.make{K:aH}(e:Uw P w K mg base A outer s H)(C:Addr)(us:List Value)(kw:List (Str × Value)):
  Uw P w K mg base (A.under (.builtin "type.__call__" #[.ref C::us,kw])) outer s H:=#[by first|exact e.frames|(simpa[afb,Code.envs,aft,pushEnvs]using e.frames),e.mod,e.bs,e.bsz,e.JC,e.frf,e.hok,e.bare]
theorem Uw.in1{K:aH}(e:Uw P w K mg base A outer s H):
  Uw P w K mg base A.in1 outer s H:=#[e.frames,e.mod,e.bs,e.bsz,e.JC,e.frf,e.hok,e.bare]
section
variable{X:Cx}{σ:St}{H:Hp}{s s':Shared}
theorem Inv.env0(I:Inv X pins σ H s):Uw X.prog X.w X.K X.mg X.base X.A X.stack s H:=
 #[I.ok.frames,I.ok.mod,I.bs,cW I.ok.bsz I.sz,I.stack,I.ahs,I.hok,I.bare]
theorem Inv.after(I:Inv X pins σ H s)(h:CE X.stack X.prog X.w H s Q u s'):EP X pins σ Q u s':=by
 obtain⟨v,H',os,bare,un,hok,r,q⟩:=h;obtain⟨hh,g,d,t,os'⟩:=s';obtain rfl:os'=s.os:=os;show#[v,H',I.call (h':=hh) (g':=g) (d':=d) (t':=t) (ch:=[]) un hok bare (fun b z=>mM z (by simp)),r,q]
end
@[reducible] def am9(sp:Sp)(dvs:List V)(E:XK)(t:TA):TE:=fun σ H Q=>t σ H fun vs H1=>sp (vs++dvs) H1 Q E
@[reducible] def arJ(C:Addr)(m:Str)(sp:Sp)(dvs:List V)(E:XK)(ta:TE)(t:TA):TE:=fun σ H Q=>ta σ H fun x H1=>∃a dx fs,x=.ref a/\H1 a=some (.ins C dx fs)/\fs.lookup m=none /\
 t σ H1 fun vs H2=>sp (x::(vs++dvs)) H2 Q E
def arK(C:Addr)(sp:Sp)(dvs:List V)(E:XK)(t:TA):TE:=fun σ H Q=>t σ H fun vs H1=>∀x dx,H1 x=none->H1 dx=none->dx≠x ->
 sp (.ref x::(vs++dvs)) (upd (upd H1 dx (.own x)) x (.ins C dx [])) (fun v H2=>v=.non/\Q (.ref x) H2) E
def Binds(K:aH)(fd:FuncData)(ps:List Str)(ds:List Value):Prop:=
 ∀s us,K.In s.heap->(us++ds).length=ps.length->Jc s fd #[us,[]] (ps.zip (us++ds))
theorem Binds.all{K:aH}{ps:List Str}(h:∀us:List Value,us.length=ps.length->Df fd #[us,[]]=pure (ps.zip us)):Binds K fd ps []:=fun s us _ hl=>by
 rw[yU]at hl ⊢;exact .of_eq (h us hl)
def Passes(CX:CXT)(X:Cx)(E:XK):Prop:=∀(pins:List (Addr × Obj)) (σ:St) (H:Hp) (s:Shared) (e:Value) (s':Shared),Inv X pins σ H s->CX X.stack H s E e s'->X.xe e s'
section
variable{X:Cx}{k:Nat}{f C:Addr}{ps:List Str}{x m:Str}{p pos apos:Pos}{e o:Expr}{es:List Expr}{t:TA}
theorem afR{pins:List (Addr × Obj)}{σ:St}{H:Hp}{s:Shared}{Q:VK}{us:List Value}{vs:List V}(F:wg X.prog X.w X.K X.mg X.base CX k f fd ps sp)(hr:iU k X.A)(hb:Binds X.K fd ps ds)(hd:Vals dvs ds)(hx:Passes CX X E)
  (I:Inv X pins σ H s) (r:Vals vs us) (h:sp (vs++dvs) H Q E):wpAny (model X.prog X.w) X.A (call (.ref f) us) (EP X pins σ Q) X.xe s:=by
 have r2:Vals (vs++dvs) (us++ds):=r.append hd;have hl:(us++ds).length=ps.length:=by rw[<-r2.length];exact F.len _ _ _ _ h
 refine Pq (yZ (F.run X.A X.stack s H #[us,[]] (us++ds) (vs++dvs) Q E hr I.env0 (hb s us I.kIn hl) r2 h) fun r s' hq=>?_);cases r with
 |error e=>exact hx pins σ H s e s' I hq
 |ok fl =>
  cases fl with
  |ret u=>exact I.after hq
  |next=>exact jz hq
  |brk=>exact jz hq
  |cont=>exact jz hq
theorem apZ(F:wg X.prog X.w X.K X.mg X.base CX k f fd ps sp)(hr:iU k X.A)(hg:Gl X x)(hm:X.mg x=some (.ref f))(hk:rZ X.K (.ref f)=true)(hb:Binds X.K fd ps ds)(hd:Vals dvs ds)(hx:Passes CX X E)
  (ha:PA X (e::es) t) (hdb:(x == ("__debug__" : Str))=false:=by decide) (he:cj (e::es) X.env=(false,eval e X.env)::cj es X.env:=by rfl) (hpl:(fK pos (cj es X.env)).any (·.1)=false:=by rfl):
  PE X (.Call (.Name x p) (e::es) [] pos) (am9 sp dvs E t):=by
 k_dat (Q,h) "g"
 refine vm (Oi I hg hm ?_ hdb);refine aex (h₀:=X.base) I.ok.mod.kin hk (thn (ha pos pins s σ H _ I h) fun us s1 ⟨vs,H1,I1,r,q⟩=>#[I1.kIn,?_]) he hpl;exact afR F hr hb hd hx I1 r q
theorem ana(F:wg X.prog X.w X.K X.mg X.base CX k f fd ps sp)(hr:iU k X.A)(hg:Gl X x)(hm:X.mg x=some (.ref f))(hk:rZ X.K (.ref f)=true)(hb:Binds X.K fd ps ds)(hd:Vals dvs ds)(hx:Passes CX X E)
  (hdb:(x == ("__debug__" : Str))=false:=by decide):PE X (.Call (.Name x p) [] [] pos) (am9 sp dvs E aiM):=by
 k_dat (Q,h) "g"
 refine vm (Oi I hg hm ?_ hdb);exact PySem.W.callWith_K0 I.kIn hk (afR (us:=[]) F hr hb hd hx I .nil h)
theorem ap0{pl:Sem Bool}(he:PE X o ta)(c:Cls X.K C)(hm:Meth X.K C m f)(F:wg X.prog X.w X.K X.mg X.base CX k f fd ps sp)(hr:iU k X.A)(hb:Binds X.K fd ps ds)(hd:Vals dvs ds)(hx:Passes CX X E)(ha:PA X (e::es) t)
  (hst:cj (e::es) X.env=(false,eval e X.env)::cj es X.env:=by rfl) (hpl:(fK pos (cj es X.env)).any (·.1)=false:=by rfl)
  (ht:eval (.Call (.Attribute o m apos) (e::es) [] pos) X.env=(do
   let ov <-eval o X.env
   Yx apos.atName
   let (f,first) <-Dk [ov] (Yu ov m pl)
   callWith pos f first (fK pos (cj (e::es) X.env)) (Jb pos (IK [] X.env))):=by rfl) :
  PE X (.Call (.Attribute o m apos) (e::es) [] pos) (arJ C m sp dvs E ta t):=by
 k_dat (Q,h) "g"
 refine PySem.W.methodCall_KW (pl:=pl) (thn (he pins s σ H _ I h) fun u s1 zq=>?_) ht;obtain⟨x,H1,I1,rx,a,dx,fs,ex,ea,l,q⟩:=zq;subst ex;obtain rfl:u=Value.ref a:=rx;refine afM I1 ea c hm l ?_;refine aex (first:=[.ref a]) (h₀:=X.base) I.ok.mod.kin hm.kp (thn (ha pos pins s1 σ H1 _ I1 q) fun us s2 ⟨vs,H2,I2,r,q2⟩=>#[I2.kIn,?_]) hst hpl;exact afR (us:=.ref a::us) (vs:=.ref a::vs) F hr hb hd hx I2 (.cons rfl r) q2
structure Mk(K:aH)(C f:Addr):Prop where
 makes:YH K C=true
 init:mH K (.ref C) "__init__" = some (some (.ref f))
 fn:PL K (.ref f)=true
 kp:rZ K (.ref C)=true
theorem anb{pins:List (Addr × Obj)}{σ:St}{H:Hp}{s:Shared}{Q:VK}{us:List Value}{vs:List V}(M:Mk X.K C f)(F:wg X.prog X.w X.K X.mg X.base CX k f fd ps sp)(hr:iU (k+1) X.A)(hb:Binds X.K fd ps ds)(hd:Vals dvs ds)
  (hx:Passes CX X E) (I:Inv X pins σ H s) (r:Vals vs us)
  (h:∀x dx,H x=none->H dx=none->dx≠x->sp (.ref x::(vs++dvs)) (upd (upd H dx (.own x)) x (.ins C dx [])) (fun v H2=>v=.non/\Q (.ref x) H2) E):
  wpAny (model X.prog X.w) X.A (call (.ref C) us) (EP X pins σ Q) X.xe s:=by
 have hq:=h (~~~s+1) (~~~s) (I.hok.fresh (jN _)) (I.hok.fresh (aK _)) (bJ (sH _));have I2:=Inv.made (C:=C) I;have r2:Vals (V.ref (~~~s+1)::(vs++dvs)) (Value.ref (~~~s+1)::(us++ds)):=.cons rfl (r.append hd);have hl:(Value.ref (~~~s+1)::us++ds).length=ps.length:=by
  have e:=r2.length;rw[F.len _ _ _ _ hq]at e;exact e.symm
 refine Pq (am7 (f:=f) I.kIn M.makes M.init (beq_iff_eq.mp M.fn) (yZ (F.run _ X.stack _ _ #[Value.ref (~~~s+1)::us,[]] (Value.ref (~~~s+1)::(us++ds)) _ _ E (hr.make C us [])
  (I2.env0.make C us []) (hb _ (Value.ref (~~~s+1)::us) I2.kIn hl) r2 hq) fun r s' hq'=>?_))
 cases r with
 |error e=>exact hx pins σ _ _ e s' I2 hq'
 |ok fl =>
  cases fl with
  |ret u =>
   obtain⟨v,H',I3,rv,ev,q3⟩:=I2.after hq';subst ev;show#[rv,#[V.ref (~~~s+1),H',I3,rfl,q3]]
  |next=>exact jz hq'
  |brk=>exact jz hq'
  |cont=>exact jz hq'
theorem ap1(M:Mk X.K C f)(F:wg X.prog X.w X.K X.mg X.base CX k f fd ps sp)(hr:iU (k+1) X.A)(hg:Gl X x)(hm:X.mg x=some (.ref C))(hb:Binds X.K fd ps ds)(hd:Vals dvs ds)(hx:Passes CX X E)
  (ha:PA X (e::es) t) (hdb:(x == ("__debug__" : Str))=false:=by decide) (he:cj (e::es) X.env=(false,eval e X.env)::cj es X.env:=by rfl) (hpl:(fK pos (cj es X.env)).any (·.1)=false:=by rfl):
  PE X (.Call (.Name x p) (e::es) [] pos) (arK C sp dvs E t):=by
 k_dat (Q,h) "g"
 refine vm (Oi I hg hm ?_ hdb);refine aex (h₀:=X.base) I.ok.mod.kin M.kp (thn (ha pos pins s σ H _ I h) fun us s1 ⟨vs,H1,I1,r,q⟩=>#[I1.kIn,?_]) he hpl;exact anb M F hr hb hd hx I1 r q
end
section
variable{X:Cx}{k:Nat}{f C:Addr}{fd:FuncData}{ps ks:List Str}{x m:Str}{p pos apos kpos:Pos}{e o:Expr}{es:List Expr}{te ta:TE}{t tk:TA}
structure KBinds(K:aH)(fd:FuncData)(ps ks:List Str)(g:List Value->List Value->List Value)(gV:List V->List V->List V):Prop where
 to:∀(s:Shared)(us ws:List Value),K.In s.heap->(g us ws).length=ps.length->Jc s fd #[us,ks.zip ws] (ps.zip (g us ws))
 rel:∀{vs:List V}{us:List Value}{zs:List V}{ws:List Value},Vals vs us->Vals zs ws->Vals (gV vs zs) (g us ws)
variable{g:List Value->List Value->List Value}
end
structure aC(N P:List Str)(sc:Scope):Prop where
 kind:sc.kind=.function
 co:sc.isCoroutine=false
 gen:sc.isGenerator=false
 nd:N.Nodup
 pre:N.take P.length=P
 par:∀x∈P,sc.names.lookup x=some .local\/sc.names.lookup x=some .cell
 auy:∀y∈sc.names,y.2≠.free
theorem Wa{kindOf:Str->Option Dg}{x:Str}:∀{binds:List (Str × Value)} {m:Str->Option Value},(∀v,(x,v)∉binds)->bindL kindOf binds m x=m x
 |[],_,_=>rfl
 |(n,v)::r,m,h=>by
  unfold bindL;rw[Wa fun w hw=>h w (cF _ hw)];split
  ·have:x≠n:=by rintro rfl;exact h v bY
   simp[this]
  ·rfl
theorem Wc{kindOf:Str->Option Dg}{x:Str}:∀{binds:List (Str × Value)} {m:Str->Option Value},(∀v,(x,v)∉binds)->bindC kindOf binds m x=m x
 |[],_,_=>rfl
 |(n,v)::r,m,h=>by
  unfold bindC;rw[Wc fun w hw=>h w (cF _ hw)];split
  ·rfl
  ·have:x≠n:=by rintro rfl;exact h v bY
   simp[this]
theorem Wd{kindOf:Str->Option Dg}{x:Str}{v:Value}:∀{P:List Str}{vs:List Value}{i:Nat}{m:Str->Option Value},P.Nodup->P[i]? = some x->vs[i]? = some v->kindOf x=some .local ->
  bindL kindOf (P.zip vs) m x=some v
 |[],_,_,_,_,h,_,_=>by simp at h
 |_::_,[],_,_,_,_,h,_=>by simp at h
 |p::P,w::vs,0,m,nd,h1,h2,hk=>by
  simp at h1 h2;subst h1;subst h2;show bindL kindOf ((p,w)::P.zip vs) m p=_;unfold bindL;rw[Wa fun v hv=>(iu.mp nd).1 (X6 hv).1,mI hk];simp
 |p::P,w::vs,i+1,m,nd,h1,h2,hk=>by
  show bindL kindOf ((p,w)::P.zip vs) m x=_;unfold bindL;exact Wd (i:=i) (iu.mp nd).2 (by simpa using h1) (by simpa using h2) hk
theorem Wf{kindOf:Str->Option Dg}{x:Str}{v:Value}:∀{P:List Str}{vs:List Value}{i:Nat}{m:Str->Option Value},P.Nodup->P[i]? = some x->vs[i]? = some v->kindOf x≠some .local ->
  bindC kindOf (P.zip vs) m x=some v
 |[],_,_,_,_,h,_,_=>by simp at h
 |_::_,[],_,_,_,_,h,_=>by simp at h
 |p::P,w::vs,0,m,nd,h1,h2,hk=>by
  simp at h1 h2;subst h1;subst h2;show bindC kindOf ((p,w)::P.zip vs) m p=_;unfold bindC;rw[Wc fun v hv=>(iu.mp nd).1 (X6 hv).1,mB hk];simp
 |p::P,w::vs,i+1,m,nd,h1,h2,hk=>by
  show bindC kindOf ((p,w)::P.zip vs) m x=_;unfold bindC;exact Wf (i:=i) (iu.mp nd).2 (by simpa using h1) (by simpa using h2) hk
def start(N:List Str)(vs:List V):St:=vs.map some++jd (N.length-vs.length) none
def aiN(CX:CXT)(P:aN)(w:World)(K:aH)(mg:Str->Option Value)(base:Heap)(N:List Str)(qual:Str)(scope:Scope)(f:Addr)(cd:Value)(A:aU)(outer:List Env)(s:Shared)(H:Hp)(E:XK):Cx where
 prog:=P
 w:=w
 K:=K
 mg:=mg
 base:=base
 A:=A.deeper (vG qual scope (~~~s) f cd)
 N:=N
 s₀:=s
 H₀:=H
 env:=vG qual scope (~~~s) f cd
 outer:=outer
 stack:=vG qual scope (~~~s) f cd::outer
 ex:=[]
 calm:=true
 fn:=fun _=>true
 pn:=[]
 xe:=fun e s'=>wpAny (model P w) (A.deeper (vG qual scope (~~~s) f cd)) (leaving (vG qual scope (~~~s) f cd) e) (fun _ s''=>CX outer H s E e s'') (fun e' s''=>CX outer H s E e' s'') s'
theorem abQ{sc:Scope}(h:sc.names.lookup x=some .cell):∃c,(aes n sc.names []).lookup x=some c:=by
 have q:=ak3 sc.names n [] (.inl h);exact aeT.mp q
theorem aiO{K:aH}{A:aU}{vs:List V}
  (S:aC N ps scope) (hd:A.handled=none) (e0:Uw P w K mg base A outer s H) (hl:vs.length=ps.length) (r:Vals vs us)
  (x:InCallC s (~~~s) (bindL (vG qual scope (~~~s) f cd).kindOf (ps.zip us) fun _=>none) (aes (~~~s+1) scope.names []) (bindC (vG qual scope (~~~s) f cd).kindOf (ps.zip us) fun _=>none) s1):
  Inv (aiN CX P w K mg base N qual scope f cd A outer s H E) [] (start N vs) H s1:=by
 have hpl:ps.length<=N.length:=by have:=mN fX S.pre;rw[eX]at this;lia
 obtain ⟨h1,tk,rfl,hk⟩:=x.done;have noA:∀ b:Addr,b∉(aiN CX P w K mg base N qual scope f cd A outer s H E).ex:=fun b z=>mM (show b∈([]:List Addr) from z) (by simp);show#[#[e0.mod,S.kind,rfl,rfl,aK _,fun y z c h1 h2=>?_,fun y hy=>?_,fun y c _ h=>?_,fun _=>hd,Around.frames_deeper e0.frames,.inr #[rfl,rfl],fun b z=>mM z (noA b),e0.bs,e0.bsz,fun b _ _=>noA b,fun b z=>mM z (noA b),e0.JC,e0.frf],
  rfl,e0.bare,Un.kept hk,#[_,x.toInCall.ns,fun i y v h1 h2 h3=>?_],fun y c h=>#[_,x.cell y c h],e0.hok.fresh (aK _),fun y c h=>?_,fun p hp=>mM (show p∈([]:List (Addr × Obj)) from hp) (by simp),e0.hok.kept hk,?_]
 ·exact name_of_addr x.apart (Im h1) (Im h2)
 ·have hy:scope.names.lookup y=some .cell\/scope.names.lookup y=some .free:=hy;rcases hy with hy|hy
  ·exact abQ hy
  ·exact mM rfl (S.auy _ (Im hy))
 ·exact gK (x.above y c (Im h))
 ·have hi:i<vs.length:=by
   unfold start at h2;by_cases hi:i<vs.length
   ·exact hi
   ·rw[Ft (by simpa using hi)]at h2;rw[aj9]at h2;split at h2 <;> cases h2
  have ha:vs[i]? = some v:=by
   unfold start at h2;rw[OJ (by simpa using hi),cP]at h2;cases e:vs[i]? with
   |none=>rw[e]at h2;cases h2
   |some a=>rw[e]at h2;cases h2;rfl
  obtain⟨u,hu,rv⟩:=r.get ha;have hp:ps[i]? = some y:=by
   rwa[<-S.pre,List.getElem?_take_of_lt tb_g%]
  have ndP:ps.Nodup:=by rw[<-S.pre];exact S.nd.sublist (ad0 _ _)
  show#[u,rv,?_];rcases S.par y (mv hp)with k|k
  ·exact .inl #[k,Wd ndP hp hu k]
  ·obtain⟨c,e⟩:=abQ (n:= ~~~s+1) k;refine .inr #[.inl k,c,e,?_];have q:=x.cell y c e;rwa[Wf ndP hp hu (by show scope.names.lookup y≠_;rw[k];decide)]at q
 ·exact e0.hok.fresh (gK (x.above y c (Im h)))
 ·unfold start;show _=N.length;rw[cu,aD,BZ];lia
theorem fn_of{K:aH}{dV kV doc pm cdv ct oc:Value}
     (lk:K.lookup f=some #[oc,od,.func (lE name qual params body scope dV kV doc pm an cdv ct),osl]) (hcd:PK K cdv qual=true) (S:aC N ps scope)
  (len:∀vs H Q E,sp vs H Q E->vs.length=ps.length)
  (hbody:∀A outer s H vs Q E,iU k (A.deeper (vG qual scope (~~~s) f cdv))->sp vs H Q E ->
   ∃ t,PSs (aiN CX P w K mg base N qual scope f cdv A outer s H E) body t/\t { nx:=fun _ H'=>Q .non H',rt:=Q } (start N vs) H) :
  wg P w K mg base CX (k+1) f (lE name qual params body scope dV kV doc pm an cdv ct) ps sp:=by
 show#[len,fun A outer s H args us vs Q E hr e0 hb r hsp=>?_];have hl:=len _ _ _ _ hsp;have KX:K.In s.heap:=e0.mod.kin.keeps fun b o e=>(e0.bs b o e).1;have lim:s.heap.NoLimit:=e0.mod.nolimit.keeps fun b o e=>(e0.bs b o e).1;have hkind:∀y∈ps.zip us,scope.names.lookup y.1=some .local\/(scope.names.lookup y.1=some .cell/\((aes (~~~s+1) scope.names []).lookup y.1).isSome=true):=fun⟨n,v⟩ hy=>by
  rcases S.par n (X6 hy).1 with q|q
  ·exact .inl q
  ·exact .inr #[q,ak3 _ _ _ (.inl q)]
 refine codeAny_call_function hr.depth (KX _ _ lk) rfl S.co S.gen rfl (PySem.W.codeRec_of KX hcd) (hb _ _ _ _ ?_);refine wpAny_newFunctionEnv_cells S.kind hkind fun env he s1 x=>?_;subst he;show#[lim.keeps x.toInCall.keep,codeAny_func ?_];obtain⟨t,ht,hq⟩:=hbody A outer s H vs Q E (hr.deeper _) hsp;have I:Inv (aiN CX P w K mg base N qual scope f cdv A outer s H E) [] (start N vs) H s1:=aiO S hr.hd e0 hl r x;refine iw (ht [] s1 (start N vs) H _ I hq) (fun fl s' hs=>?_) fun e s' hs=>hs;have fin:∀{σ':St}{H':Hp}{v:V}{u:Value},Inv (aiN CX P w K mg base N qual scope f cdv A outer s H E) [] σ' H' s'->RelV v u->Q v H'->CE outer P w H s Q u s':=
  fun {σ' H' v u} J rv q=>#[v,H',J.os,J.bare,J.base,J.hok,rv,q]
 cases fl with
 |ret u =>
  obtain⟨v,σ',H',J,rv,q⟩:=hs;exact fin J rv q
 |next =>
  obtain⟨σ',H',J,q⟩:=hs;exact fin (v:=V.non) (u:=Value.none) J rfl q
 |brk =>
  obtain⟨_,_,_,q⟩:=hs;exact jz q
 |cont =>
  obtain⟨_,_,_,q⟩:=hs;exact jz q
section
variable{X:Cx}{x:Str}{p pos:Pos}{e:Expr}{es:List Expr}{t:TA}{id T:String}{r:List V->Hp->VK->Prop}
@[reducible] def tCB(r:List V->Hp->VK->Prop)(t:TA):TE:=fun σ H Q=>t σ H fun vs H1=>r vs H1 Q
theorem dj(hc:gA X (.builtin id) r)(hg:Gl X x)(hm:X.mg x=none)(hv:yX x=some (.builtin id))(ha:PA X (e::es) t)(hn:x ≠ "__name__" := by decide)(hdb:(x == ("__debug__" : Str))=false:=by decide)
  (he:cj (e::es) X.env=(false,eval e X.env)::cj es X.env:=by rfl) (hpl:(fK pos (cj es X.env)).any (·.1)=false:=by rfl):PE X (.Call (.Name x p) (e::es) [] pos) (tCB r t):=by
 k_dat (Q,h) "g"
 refine vm (jW I hg hm hv ?_ hn hdb);exact asq (thn (ha pos pins s σ H _ I h) fun us s1 ⟨vs,H1,I1,r1,q1⟩=>hc pins s1 σ H1 vs us Q I1 r1 q1) he hpl
theorem gO(hc:gA X (.type T) r)(hg:Gl X x)(hm:X.mg x=none)(hv:yX x=some (.type T))(ha:PA X (e::es) t)(hn:x ≠ "__name__" := by decide)(hdb:(x == ("__debug__" : Str))=false:=by decide)
  (he:cj (e::es) X.env=(false,eval e X.env)::cj es X.env:=by rfl) (hpl:(fK pos (cj es X.env)).any (·.1)=false:=by rfl):PE X (.Call (.Name x p) (e::es) [] pos) (tCB r t):=by
 k_dat (Q,h) "g"
 refine vm (jW I hg hm hv ?_ hn hdb);exact zE (thn (ha pos pins s σ H _ I h) fun us s1 ⟨vs,H1,I1,r1,q1⟩=>hc pins s1 σ H1 vs us Q I1 r1 q1) he hpl
end
end L2
namespace HT
open PySem PyProof.Rows
section
open PySem.SeqAt
open PySem.AutoSeq1 (wpAny_loadPart')
open PySem.MeetsSeq PySem.MeetsSeq2 PySem.MeetsSeq3
end
section
variable{A:aU}{s:Shared}
def sIx(n d:Nat):Option Int->Nat
 |none=>d
 |some v=>if v<0 then(v+(n:Int)).toNat else min v.toNat n
theorem anc(n d:Nat):sIx n d none=d:=rfl
theorem ap2(n d k:Nat):sIx n d (some (k:Int))=min k n:=by
 show(if(k:Int)<0 then((k:Int)+(n:Int)).toNat else min (k:Int).toNat n)=min k n;rw[mB tb_g%,aeJ]
end
end HT
namespace L2
open PySem PySem.Spec PyProof.Rows
abbrev TO:=St->Hp->(Option Int->Hp->Prop)->Prop
def PO(X:Cx)(e:Option Expr)(t:TO):Prop:=
 ∀(pins:List (Addr × Obj)) (s:Shared) (σ:St) (H:Hp) (Q:Option Int->Hp->Prop),Inv X pins σ H s->t σ H Q ->
  wpAny (model X.prog X.w) X.A (evalPart e X.env) (fun u s'=>∃o H',Inv X pins σ H' s'/\IsPart u o/\Q o H') X.xe s
def ap3:TO:=fun _ H Q=>Q none H
def tPart(t:TE):TO:=fun σ H Q=>t σ H fun x H1=>∃i,x=.int i/\Q (some i) H1
theorem intsAre_of{ns:List Int}:∀{us:List Value},Vals (ns.map V.int) us->IntsAre us ns:=by
 induction ns with
 |nil=>intro us r;rw[Ik]at r;cases r;exact .nil
 |cons n ns ih =>
  intro us r;rw[cR]at r;cases r with
  |cons r1 r2 =>
   obtain⟨t,e⟩:=r1;subst e;exact .cons n t (ih r2)
section
variable{X:Cx}{e:Expr}{te:TE}{lo hi:Option Expr}{pos p2:Pos}
theorem ap4:PO X none ap3:=by
 k_dat (Q,h) "g"
 rw[akT];exact aF #[none,H,I,.none,h]
theorem ap5(h:PE X e te):PO X (some e) (tPart te):=by
 k_dat (Q,hw) "g"
 rw[evalPart_some];refine thn (h pins s σ H _ I hw) fun u s1 zq=>?_
 walk_at "s"
 obtain⟨i,rfl,q⟩:=q1
 k_dat (t,r1) "y"
 show#[some i,H1,I1,.int i t,q]
def SlR(X:Cx)(r:V->Option Int->Option Int->Hp->VK->Prop):Prop:=
 ∀(pins:List (Addr × Obj)) (s:Shared) (σ:St) (H:Hp) (x:V) (v vl vu:Value) (lo hi:Option Int) (sl:Addr) (Q:VK),Inv X pins σ H s->RelV x v->s.heap.IsSliceOf sl vl vu .none->IsPart vl lo->IsPart vu hi->r x lo hi H Q ->
  ∃T id,zc (.type T) "__getitem__" = pure (some (.builtin id))/\s.TypeIs v T/\wpAny (model X.prog X.w) X.A (Yy v (.ref sl)) (EP X pins σ Q) X.xe s
def tSl(r:V->Option Int->Option Int->Hp->VK->Prop)(te:TE)(tl th:TO):TE:=fun σ H Q=>te σ H fun x H1=>tl σ H1 fun l H2=>th σ H2 fun u H3=>r x l u H3 Q
theorem ane(hr:SlR X r)(he:PE X e te)(hl:PO X lo tl)(hu:PO X hi th):PE X (.Subscript e (.Slice lo hi none p2) pos) (tSl r te tl th):=by
 k_dat (Q,h) "g"
 k_dat (ae7,he,v) "v"
 walk_at "s"
 refine wpAny_Slice (thn (hl pins s1 σ H1 _ I1 q1) fun vl s2 ⟨l,H2,I2,pl,q2⟩=>thn (hu pins s2 σ H2 _ I2 q2) fun vu s3 zq=>?_);obtain⟨u,H3,I3,pu,q3⟩:=zq;rw[akT];refine aF ?_;have I4:Inv X pins σ H3 { s3 with heap:=s3.heap.push { cls:=.type "slice",data:=.fields [vl,vu,.none].toArray } }:=I3.kept (t':=s3.toks) fun b ob q=>cH _ q;obtain⟨T,id,hT,ht,hg⟩:=hr pins { s3 with heap:=s3.heap.push { cls:=.type "slice",data:=.fields [vl,vu,.none].toArray } } σ H3 x v vl vu l u (~~~s3) Q I4 r1 (ams ..) pl pu q3;show wpAny (model X.prog X.w) X.A (Ze e (.Slice lo hi none p2) v (.ref (~~~s3))) (EP X pins σ Q) X.xe { s3 with heap:=s3.heap.push { cls:=.type "slice",data:=.fields [vl,vu,.none].toArray } };exact ae8 (ops:=[.ref (~~~s3),v]) ht hT hg (by with_unfolding_all rfl)
def BL(xs:List V)(lo hi:Option Int):List V:=(xs.drop (HT.sIx xs.length 0 lo)).take (HT.sIx xs.length xs.length hi-HT.sIx xs.length 0 lo)
theorem abR(xs:List V)(lo hi:Option Int):(BL xs lo hi).length<=xs.length:=by
 unfold BL;rw[eX,O5];lia
end
def ixN(n:Nat)(i:Int):Option Nat:=if 0<=i then(if i<n then some i.toNat else none)else if -(n:Int)<=i then some (i+n).toNat else none
def atI{α:Type}(xs:List α)(i:Int):Option α:=(ixN xs.length i).bind fun j=>xs[j]?
theorem ahz(h:ixN n i=some j):seqIndex? i n=some j/\j<n /\ -(n:Int)<=i/\i<n:=by
 unfold ixN at h;by_cases h0:0<=i
 ·rw[mI h0]at h;by_cases h1:i<n
  ·rw[mI h1]at h;have e:i.toNat=j:=bC h;show#[by rw[aek h0 h1,e],by lia,by lia,h1]
  ·rw[mB h1]at h;cases h
 ·rw[mB h0]at h;by_cases h1:-(n:Int)<=i
  ·rw[mI h1]at h;have e:(i+n).toNat=j:=bC h;show#[by rw[aej tb_g% h1,e],by lia,h1,by lia]
  ·rw[mB h1]at h;cases h
theorem Z0{α:Type}{xs:List α}{i:Int}{v:α}(h:atI xs i=some v):∃j,seqIndex? i xs.length=some j/\xs[j]? = some v/\j<xs.length /\ -(xs.length:Int)<=i/\i<xs.length:=by
 unfold atI at h;cases e:ixN xs.length i with
 |none=>rw[e]at h;cases h
 |some j =>
  rw[e]at h;obtain⟨h1,h2,h3,h4⟩:=ahz e;show#[j,h1,h,h2,h3,h4]
theorem fu{α:Type}{xs:List α}{j:Nat}{v:α}(h:xs[j]? = some v):atI xs (j:Int)=some v:=by
 have hj:j<xs.length:=(dI.mp h).1;have e:ixN xs.length (j:Int)=some j:=by
  unfold ixN;rw[mI tb_g%,mI tb_g%];simp
 unfold atI;rwa[e]
def ap6(b:Expr):Prop:=∀o i,ael b false o i=operate [o,i] (Yy o i)
def IxR(X:Cx)(r:R2):Prop:=
 ∀(value slice:Expr) (pins:List (Addr × Obj)) (s:Shared) (σ:St) (H:Hp) (x y:V) (v u:Value) (Q:VK),Inv X pins σ H s->RelV x v->RelV y u->r x y H Q ->
  ael slice false v u=operate [v,u] (Yy v u)->wpAny (model X.prog X.w) X.A (Ze value slice v u) (EP X pins σ Q) X.xe s
def MtR(X:Cx)(id:String)(r:V->List V->Hp->VK->Prop):Prop:=
 ∀(pins:List (Addr × Obj)) (s:Shared) (σ:St) (H:Hp) (x:V) (xs:List V) (v:Value) (us:List Value) (Q:VK),Inv X pins σ H s->RelV x v->Vals xs us->r x xs H Q ->
  wpAny (model X.prog X.w) X.A (call (.builtin id) (v::us)) (EP X pins σ Q) X.xe s
section
variable{X:Cx}{a b:Expr}{pos:Pos}
theorem IxR.or(h:IxR X r)(h':IxR X r'):IxR X (fun x y H Q=>r x y H Q\/r' x y H Q):=by
 intro value slice pins s σ H x y v u Q I rx ry q hs;rcases q with q|q
 ·exact h value slice pins s σ H x y v u Q I rx ry q hs
 ·exact h' value slice pins s σ H x y v u Q I rx ry q hs
theorem QS(hr:IxR X r)(ha:PE X a ta)(hb:PE X b tb)(hs:ap6 b):PE X (.Subscript a b pos) (tOp r ta tb):=by
 k_dat (Q,h) "g"
 exact ae7 (binT ha hb I h fun v u s2 x y H2 I2 rx ry q=>hr a b pins s2 σ H2 x y v u Q I2 rx ry q (hs _ _))
def rIxL(K:aH):R2:=fun x y H Q=>∃p xs i v,x=.ref p/\y=.int i/\SqL K H p xs/\atI xs i=some v/\Q v H
def rIxT(K:aH):R2:=fun x y H Q=>∃p xs i v,x=.ref p/\y=.int i/\SqT K H p xs/\atI xs i=some v/\Q v H
def rIxS:R2:=fun x y H Q=>∃z i c,x=.str z/\y=.int i/\z.length<=sizeLine/\atI z.cps.toList i=some c/\Q (.str #[[c].toArray]) H
theorem ap7:IxR X (rIxL X.K):=by
 intro value slice pins s σ H x y v u Q I rx ry h hs;obtain⟨p,xs,i,z,rfl,rfl,hq,he,q⟩:=h;cases rx
 k_dat (t,ry) "y"
 obtain⟨its,r,pl,hz⟩:=I.list hq;obtain⟨j,h1,h2,h3,h4,h5⟩:=Z0 he;obtain⟨w,ew,rw'⟩:=r.get h2;have hl:=r.length;have hn:=QL;have fin:EP X pins σ Q w s:=#[z,H,I,rw',q];by_cases h0:0<=i
 ·have hj:i.toNat=j:=by
   rw[aek h0 h5]at h1;exact bC h1
  exact item_listR pl.isList h0 tb_g% (by rw[hj];simpa using ew) fin hs
 ·have hj:(i+(its.toArray.size:Int)).toNat=j:=by
   rw[aej tb_g% h4]at h1;rw[bG,<-hl];exact bC h1
  exact alW (x:=w) pl.isList.typeIs ad8.lookup
   (wpAny_getItem_list_neg (Q:=fun r s'=>r=w/\EP X pins σ Q r s') pl.isList tb_g% (by rw[bG] <;> lia) tb_g% (by rw[hj];simpa using ew) #[rfl,fin]) hs
theorem auz:IxR X (rIxT X.K):=by
 intro value slice pins s σ H x y v u Q I rx ry h hs;obtain⟨p,xs,i,z,rfl,rfl,hq,he,q⟩:=h;cases rx
 k_dat (t,ry) "y"
 obtain⟨its,r,pl,hz⟩:=I.tuple hq;obtain⟨j,h1,h2,h3,h4,h5⟩:=Z0 he;obtain⟨w,ew,rw'⟩:=r.get h2;have hl:=r.length;have hn:=QL;have fin:EP X pins σ Q w s:=#[z,H,I,rw',q];exact alW (x:=w) pl.typeIs slot_tuple_getitem.lookup
  (getItem_tuple (j:=j) (Q:=fun r s'=>r=w/\EP X pins σ Q r s') pl tb_g% tb_g% (by rwa[bG,<-hl]) (by simpa using ew) #[rfl,fin]) hs
theorem auA:IxR X rIxS:=by
 intro value slice pins s σ H x y v u Q I rx ry h hs;obtain⟨z,i,c,rfl,rfl,hz,he,q⟩:=h
 k_dat (t,rx) "y"
 k_dat (t',ry) "y"
 obtain⟨j,h1,h2,h3,h4,h5⟩:=Z0 he;have hl:z.cps.toList.length=z.length:=by simp[alh]
 rw [hl] at h1 h4 h5;have hn:=QL;exact ae8 (zf s z t) slot_str_getitem.lookup (getItem_str (c:=c) (by
  have e1:decide (i < -(2 ^ 63:Int))=false:=xj tb_g%;have e2:decide (i>=2 ^ 63)=false:=xj tb_g%;rw [e1,e2,aeS]) (by rw [h1];simpa using h2) #[.str #[[c].toArray],H,I.tok _,#[_,rfl],q]) hs
theorem afS(its:List Value)(n j:Nat)(u:Value):eO (·.setIfInBounds j u) { cls:=.type "list",data:=.seq its.toArray n }={ cls:=.type "list",data:=.seq (its.set j u).toArray n }:=by
 simp[eO]
theorem Inv.lst{pins:List (Addr × Obj)}{σ:St}{H:Hp}{s:Shared}{p:Addr}{xs:List V}(I:Inv X pins σ H s)(h:H p=some (.lst xs)):
  ∃(its:List Value)(n:Nat),Vals xs its/\s⁻¹ p=some { cls:=.type "list",data:=.seq its.toArray n }/\xs.length<=sizeLine:=by
 obtain⟨z,its,n,r,e⟩:=I.hok p _ h;show#[its,n,r,e,z]
theorem Inv.auB{pins:List (Addr × Obj)}{σ:St}{H:Hp}{s:Shared}{p:Addr}{xs ys:List V}{its its':List Value}{n n':Nat}{f:Obj->Obj}(I:Inv X pins σ H s)(h:H p=some (.lst xs))
  (ho:s⁻¹ p=some { cls:=.type "list",data:=.seq its.toArray n }) (hf:f { cls:=.type "list",data:=.seq its.toArray n }={ cls:=.type "list",data:=.seq its'.toArray n' }) (r:Vals ys its') (hz:ys.length<=sizeLine) (t:Nat):
  Inv X pins σ (upd H p (.lst ys)) { s with heap:=s.heap.update p f,toks:=t }:=by
 have e:(s.heap.update p f).get? p=some { cls:=.type "list",data:=.seq its'.toArray n' }:=by
  rw[uq f ho (by rw[hf] <;> rfl),hf]
 refine I.write (x:=p) (e:=p) (by rw[h];trivial) (.inl rfl) (fun b u hb q=>(pP _ _ (aL hb)).trans q) #[_,e] ?_;show#[hz,its',n',r,e]
def arL:V->V->V->Hp->(Hp->Prop)->Prop:=fun o i v H Q=>∃p xs k j,o=.ref p/\i=.int k/\H p=some (.lst xs)/\ixN xs.length k=some j/\Q (upd H p (.lst (xs.set j v)))
theorem set_list:PSet X arL:=by
 intro pins s σ H o i v ov iv u Q I ro ri rv h;obtain⟨p,xs,k,j,rfl,rfl,hp,hj,q⟩:=h;cases ro
 k_dat (t,ri) "y"
 obtain⟨its,n,r,ho,hz⟩:=I.lst hp;obtain⟨h1,h2,h3,h4⟩:=ahz hj;have hl:=r.length;have hn:=QL;have I':Inv X pins σ (upd H p (.lst (xs.set j v))) { s with heap:=s.heap.update p (eO (·.setIfInBounds j u)) }:=
  I.auB hp ho (afS its n j u) (r.set rv j) (by rwa[lA]) s.toks
 by_cases h0:0<=k
 ·have hk:k.toNat=j:=by
   rw[aek h0 h4]at h1;exact bC h1
  exact PySem.W.ki_setAt ho h0 tb_g% (by rwa[bG,<-hl]) (by rw[hk];show#[_,I',q])
 ·have hk:(k+(its.toArray.size:Int)).toNat=j:=by
   rw[aej tb_g% h3]at h1;rw[bG,<-hl];exact bC h1
  exact PySem.W.ki_setBack ho tb_g% (by rwa[bG,<-hl]) tb_g% (by rw[hk];show#[_,I',q])
theorem Z1(lo hi:Option Int)(n:Nat):(gZ lo hi none n).1=((HT.sIx n 0 lo:Nat):Int)/\(gZ lo hi none n).2.1=((HT.sIx n n hi:Nat):Int)/\(gZ lo hi none n).2.2=1:=by
 show#[?_,?_,rfl]
 ·cases lo with
  |none=>simp[gZ,HT.sIx]
  |some i =>
   simp only[gZ,HT.sIx,aeU,show(1:Int)>0 by decide,if_true];by_cases h:i<0
   ·simp only[h,if_true] <;> lia
   ·simp only[h,if_false] <;> lia
 ·cases hi with
  |none=>simp[gZ,HT.sIx]
  |some i =>
   simp only[gZ,HT.sIx,aeU,show(1:Int)>0 by decide,if_true];by_cases h:i<0
   ·simp only[h,if_true] <;> lia
   ·simp only[h,if_false] <;> lia
theorem Ux(its:List Value)(lo hi:Option Int):Pu its.toArray lo hi none=((its.drop (HT.sIx its.length 0 lo)).take (HT.sIx its.length its.length hi-HT.sIx its.length 0 lo)).toArray:=by
 obtain⟨h1,h2,h3⟩:=Z1 lo hi its.toArray.size;unfold Pu;rw[h1,h2,h3];simp only[sliceRange_one,pick_run,bG] <;> rfl
def rSlL(K:aH):V->Option Int->Option Int->Hp->VK->Prop:=fun x lo hi H Q=>∃a xs,x=.ref a/\SqL K H a xs/\∀p,H p=none->Q (.ref p) (upd H p (.lst (BL xs lo hi)))
theorem ap8:SlR X (rSlL X.K):=by
 intro pins s σ H x v vl vu lo hi sl Q I rx hs pl pu h;obtain⟨a,xs,rfl,hx,q⟩:=h;cases rx;obtain⟨its,r,ht,hz⟩:=I.list hx;have hlen:=r.length;show#["list",_,ad8.lookup,ht.isList.typeIs,?_];refine akA ht.isList hs pl pu .none (by simp) ?_ (by rw[bG] <;> lia);rw[Ux,<-hlen];show#[.ref (~~~s),_,I.laid (t':=s.toks) (o:=.lst (BL xs lo hi)) (fun b ob q=>cH _ q) (aK _) ?_,rfl,q _ (I.hok.fresh (aK _))];show#[cW (abR xs lo hi) hz,_,0,(r.drop (HT.sIx xs.length 0 lo)).take (HT.sIx xs.length xs.length hi-HT.sIx xs.length 0 lo),cJ _ rfl]
def yc:V->Bool
 | .non=>true
 | .bl _=>true
 | .int _=>true
 | .str _=>true
 |_=>false
def eqV:V->V->Bool
 | .non,.non=>true
 | .bl a,.bl b=>a == b
 | .bl a,.int b=>(if a then 1 else 0) == b
 | .int a,.bl b=>a == (if b then 1 else 0)
 | .int a,.int b=>a == b
 | .str a,.str b=>a == b
 |_,_=>false
theorem afT(ry:RelV y u)(rx:RelV x v)(fy:yc y=true)(fx:yc x=true):Qs A s u v (eqV y x):=by
 cases y with
 |non =>
  cases ry;cases x with
  |non=>cases rx;exact afp _
  |bl b=>cases rx;exact asW b
  |int b=>obtain⟨t,rfl⟩:=rx;exact as3 b t
  |str b=>obtain⟨t,rfl⟩:=rx;exact as4 b t
  |_=>exact mM (show false=true from fx) gM
 |bl a =>
  cases ry;cases x with
  |non=>cases rx;exact asY a
  |bl b=>cases rx;exact asZ a b
  |int b=>obtain⟨t,rfl⟩:=rx;exact as5 a b t
  |str b=>obtain⟨t,rfl⟩:=rx;exact as6 a b t
  |_=>exact mM (show false=true from fx) gM
 |int a =>
  k_dat (t',ry) "y"
  cases x with
  |non=>cases rx;exact as7 a t'
  |bl b=>cases rx;exact as8 a t' b
  |int b=>obtain⟨t,rfl⟩:=rx;exact atb a t' b t
  |str b=>obtain⟨t,rfl⟩:=rx;exact amn a t' b t
  |_=>exact mM (show false=true from fx) gM
 |str a =>
  k_dat (t',ry) "y"
  cases x with
  |non=>cases rx;exact as9 a t'
  |bl b=>cases rx;exact ata a t' b
  |int b=>obtain⟨t,rfl⟩:=rx;exact amo a t' b t
  |str b=>obtain⟨t,rfl⟩:=rx;exact atc a t' b t
  |_=>exact mM (show false=true from fx) gM
 |_=>exact mM (show false=true from fy) gM
def eqU(x:V)(u:Value):Bool:=match u with
 | .none=>eqV .non x
 | .bool b=>eqV (.bl b) x
 | .int i _=>eqV (.int i) x
 | .str z _=>eqV (.str z) x
 |_=>false
theorem anf(r:RelV y u)(f:yc y=true):eqU x u=eqV y x:=by
 cases y with
 |non=>cases r;rfl
 |bl b=>cases r;rfl
 |int i=>obtain⟨t,rfl⟩:=r;rfl
 |str z=>obtain⟨t,rfl⟩:=r;rfl
 |_=>exact mM (show false=true from f) gM
theorem Z2:∀{xs:List V}{us:List Value},Vals xs us->xs.all yc=true->us.any (eqU x)=xs.any fun y=>eqV y x
 |_,_,.nil,_=>rfl
 |y::xs,u::us,.cons r t,f=>by
  rw[akv,Y5]at f;rw[CP,CP,anf r f.1,Z2 t f.2]
theorem QT(rx:RelV x v)(fx:yc x=true):∀{xs:List V}{us:List Value},Vals xs us->xs.all yc=true->∀u∈us,Qs A s u v (eqU x u)
 |_,_,.nil,_=>fun u hu=>by cases hu
 |y::xs,u::us,.cons r t,f=>fun u' hu=>by
  rw[akv,Y5]at f;rcases aP.mp hu with rfl|hu
  ·rw[anf r f.1];exact afT r rx f.1 fx
  ·exact QT rx fx t f.2 u' hu
def inV(x:V)(xs:List V):Bool:=xs.any fun y=>eqV y x
def rIn(K:aH)(neg:Bool):R2:=fun x y H Q=>∃p xs,y=.ref p/\(SqL K H p xs\/SqT K H p xs)/\yc x=true/\xs.all yc=true/\Q (.bl (if neg then !inV x xs else inV x xs)) H
theorem Z4:OpR X (fB .NotIn) (rIn X.K true):=by
 k_dat (y,u,ry) "i"
 obtain⟨p,xs,rfl,hq,fx,fs,q⟩:=h;cases ry;rcases hq with hq|hq
 ·obtain⟨its,r,pl,hz⟩:=I.list hq;refine SeqAt.notIn_listAt (eqU x) pl.isList (fun w hw=>QT rx fx r fs w (by simpa using hw)) #[.bl _,H,I,rfl,?_];rwa[show its.toArray.any (eqU x)=its.any (eqU x) by simp,Z2 r fs]
 ·obtain⟨its,r,pl,hz⟩:=I.tuple hq;refine SeqAt.notIn_tupleAt (eqU x) pl (fun w hw=>QT rx fx r fs w (by simpa using hw)) #[.bl _,H,I,rfl,?_];rwa[show its.toArray.any (eqU x)=its.any (eqU x) by simp,Z2 r fs]
theorem gA.or(h:gA X f r)(h':gA X f r'):gA X f (fun xs H Q=>r xs H Q\/r' xs H Q):=by
 intro pins s σ H xs us Q I rs q;rcases q with q|q
 ·exact h pins s σ H xs us Q I rs q
 ·exact h' pins s σ H xs us Q I rs q
theorem Z6:gA X (.type "list") (fun xs H Q=>∃p ys,xs=[.ref p]/\(SqL X.K H p ys\/SqT X.K H p ys)/\∀l,H l=none->Q (.ref l) (upd H l (.lst ys))):=by
 walk_at "l"
 obtain⟨p,ys,rfl,hq,q⟩:=h;obtain⟨u,rfl,rx⟩:=vals1 r;cases rx;have fin:∀(its:List Value),Vals ys its->ys.length<=sizeLine->∀(h':Heap)(c':Nat),(∀b o',s⁻¹ b=some o'->h'.get? b=some o') ->
   h'.get? (~~~s)=some { cls:=.type "list",dict:=none,data:=.seq its.toArray c',slots:=#[] }->EP X pins σ Q (.ref (~~~s)) { s with heap:=h' }:=fun its r' hz h' c' kp e =>
  #[.ref (~~~s),_,I.laid (t':=s.toks) kp (aK _) (show dD X.prog X.w _ h' _ (.lst ys)from#[hz,its,c',r',e]),rfl,q _ (I.hok.fresh (aK _))]
 rcases hq with hq|hq
 ·obtain⟨its,r',pl,hz⟩:=I.list hq;have hlen:=r'.length;obtain⟨o,ho,hc,n,hd⟩:=pl.isList;exact akU p (.inl rfl) ho hc hd (fun h' c' kp e=>fin its r' hz h' c' kp e) (by simp only[bG] <;> lia)
 ·obtain⟨its,r',pl,hz⟩:=I.tuple hq;have hlen:=r'.length;obtain⟨o,ho,hc,n,hd⟩:=pl;exact akU p (.inr rfl) ho hc hd (fun h' c' kp e=>fin its r' hz h' c' kp e) (by simp only[bG] <;> lia)
def tyV(K:aH)(T:String)(x:V)(H:Hp):Prop:=match x with
 | .str _=>T = "str"
 | .int _=>T = "int"
 | .ref p=>(T = "list" /\ ∃xs,SqL K H p xs)\/(T = "tuple" /\ ∃o,K.lookup p=some o/\o.cls=.type "tuple" /\ o.dict=none) \/
   (T = "dict" /\ ((∃kvs,H p=some (.dK kvs))\/∃kvs,H p=some (.dT kvs)))\/(T = "set" /\ ∃S n,H p=some (.set S n))
 |_=>False
theorem auC{pins:List (Addr × Obj)}{σ:St}{H:Hp}{s:Shared}{T:String}{x:V}{v:Value}(I:Inv X pins σ H s)(r:RelV x v)(ty:tyV X.K T x H):
  s.TypeIs v T/\∀a,v=.ref a->∃ob,s⁻¹ a=some ob/\ob.dict=none:=by
 cases x with
 |str z =>
  k_dat (t,r) "y"
  cases (show T = "str" from ty);show#[zf s z t,fun _ e=>nomatch e]
 |int i =>
  k_dat (t,r) "y"
  cases (show T = "int" from ty);show#[typeIs_int s i t,fun _ e=>nomatch e]
 |ref p =>
  cases r;rcases ty with⟨rfl,xs,hq⟩|⟨rfl,o,hk,hc,hd⟩|⟨rfl,hk⟩|⟨rfl,S,n,hk⟩
  ·obtain⟨its,_,pl,_⟩:=I.list hq;show#[pl.isList.typeIs,fun a e=>?_];cases e;obtain⟨o,n,e,c,hd,_⟩:=pl;show#[o,e,hd]
  ·show#[#[o,I.kIn p o hk,hc],fun a e=>?_];cases e;show#[o,I.kIn _ o hk,hd]
  ·have z:∃o,s⁻¹ p=some o/\o.ExactDict:=by
    rcases hk with⟨kvs,hk⟩|⟨kvs,hk⟩
    ·obtain⟨_,_,_,_,o,_,_,e,ex,_⟩:=I.hok p _ hk;show#[o,e,ex]
    ·obtain⟨_,_,_,_,o,_,_,e,ex,_⟩:=I.hok p _ hk;show#[o,e,ex]
   obtain⟨o,e,ex⟩:=z;show#[#[o,e,ex.1],fun a e2=>?_];cases e2;show#[o,e,ex.2.1]
  ·obtain⟨o,_,_,_,e,ex,_⟩:=I.hok p _ hk;show#[#[o,e,ex.1],fun a e2=>?_];cases e2;show#[o,e,ex.2.1]
 |_=>exact jz ty
def tBM(K:aH)(T:String)(r:V->List V->Hp->VK->Prop)(to:TE)(t:TA):TE:=fun σ H Q=>to σ H fun x H1=>tyV K T x H1/\t σ H1 fun xs H2=>r x xs H2 Q
variable{o e:Expr}{es:List Expr}{to:TE}{t:TA}{name:Str}{apos cpos:Pos}{T id:String}{r:V->List V->Hp->VK->Prop}
theorem yd(pa:PlainAttrs T)(slot:Slot T name id)(hty:typeOf (.builtin id)=pure (.type "method_descriptor"))(hm:MtR X id r)(ho:PE X o to)(ha:PA X (e::es) t)
  (hbase:yW o name X.env (eval o X.env)=eval o X.env:=by rfl)
  (hfew:((fK cpos (cj (e::es) X.env)).all (fun x=>!x.1) && (Jb cpos (IK [] X.env)).all (fun x=>x.1.isSome)
   && decide ((e::es).length+([]:List rR).length+(if ([]:List rR).isEmpty then 0 else 1)<30))=true:=by rfl)
  (hline:(apos.endLine == cpos.line)=true:=by rfl) (hs:cj (e::es) X.env=(false,eval e X.env)::cj es X.env:=by rfl) (hplain:(fK cpos (cj es X.env)).any (·.1)=false:=by rfl):
  PE X (.Call (.Attribute o name apos) (e::es) [] cpos) (tBM X.K T r to t):=by
 k_dat (Q,h) "g"
 refine akC hbase hfew hline rfl (thn (ho pins s σ H _ I h) fun v s1 zq=>?_);obtain⟨x,H1,I1,r1,ty,q1⟩:=zq;obtain⟨h1,h2⟩:=auC I1 r1 ty;show#[T,id,pa,slot,hty,h1,h2,?_];have hA:=ha cpos pins s1 σ H1 _ I1 q1;rw[hs]at hA ⊢;refine afj (by show(false || (fK cpos (cj es X.env)).any (·.1))=false;rw[hplain] <;> rfl) (afk ?_);exact thn hA fun us s2 ⟨vs,H2,I2,r2,q2⟩=>hm pins s2 σ H2 x vs v us Q I2 r1 r2 q2
end
def MtM(X:Cx)(id:String)(r:V->List V->Hp->VK->Prop):Prop:=
 ∀(pins:List (Addr × Obj)) (s:Shared) (σ:St) (H:Hp) (x:V) (xs:List V) (v:Value) (us:List Value) (Q:VK),Inv X pins σ H s->RelV x v->Vals xs us->r x xs H Q ->
  wpAny (model X.prog X.w) X.A (call (.builtin id) (v::us)) (EP X pins σ Q) X.xe s
theorem Vals.one:∀{x:V}{us:List Value},Vals [x] us->∃u,us=[u]/\RelV x u
 |_,_,.cons r .nil=>#[_,rfl,r]
theorem Vals.eraseIdx:∀{xs:List V}{us:List Value}(i:Nat),Vals xs us->Vals (xs.eraseIdx i) (us.eraseIdx i)
 |_,_,_,.nil=>.nil
 |_,_,0,.cons _ t=>t
 |_,_,i+1,.cons r t=>.cons r (Vals.eraseIdx i t)
theorem Vals.reverse(h:Vals xs us):Vals xs.reverse us.reverse:=by
 induction h with
 |nil=>exact .nil
 |cons r t ih=>rw[ako,ako];exact Vals.append ih (.cons r .nil)
theorem Wg{α:Type}:∀(l:List α)(i:Nat),(l.eraseIdx i).length<=l.length
 |[],_=>aK _
 |_::_,0=>jN _
 |_::r,i+1=>alm (Wg r i)
section
variable{X:Cx}{σ:St}{H:Hp}{s:Shared}{l b:Addr}
theorem Inv.aiP{its its':List Value}(I:Inv X pins σ H s)(hH:H l=some (.lst xs))
  (e:s⁻¹ l=some { cls:=.type "list",data:=.seq its.toArray n }) (hf:f its.toArray=its'.toArray) (hv:Vals ys its') (hz:ys.length<=sizeLine):
  Inv X pins σ (upd H l (.lst ys)) { s with heap:=s.heap.update l (eO f),toks:=t' }:=by
 have q:=at8 e f;rw[hf]at q;refine I.write (x:=l) (e:=l) (by rw[hH];exact trivial) (.inl rfl) (fun b' u hb hu=>(pP s.heap (eO f) (aL hb)).trans hu) #[_,q] ?_;show#[hz,its',_,hv,q]
theorem Inv.lnew{its:List Value}(I:Inv X pins σ H s)(hv:Vals ys its)(hz:ys.length<=sizeLine):
  Inv X pins σ (upd H (~~~s) (.lst ys)) { s with heap:=s.heap.push { cls:=.type "list",data:=.seq its.toArray },toks:=t' }:=
 I.laid (fun _ _ q=>cH _ q) (aK _) #[hz,its,0,hv,cJ _ rfl]
theorem Inv.fresh(I:Inv X pins σ H s):H (~~~s)=none:=I.hok.fresh (aK _)
theorem Inv.yM(I:Inv X pins σ H s)(hH:H l=some (.lst xs)):xs.length<=sizeLine/\∃its n,Vals xs its/\xs.length=its.length/\s⁻¹ l=some { cls:=.type "list",data:=.seq its.toArray n }:=by
 obtain⟨z,its,n,r,e⟩:=I.hok l _ hH;show#[z,its,n,r,r.length,e]
theorem abS(h:n<=sizeLine):aeW n=false:=by
 unfold aeW;exact xj tb_g%
end
section
variable{X:Cx}
inductive ahA (x:V) (vs:List V) (H:Hp) (Q:VK):Prop
 |k (l:Addr) (xs:List V) (y:V):x=.ref l->vs=[y]->H l=some (.lst xs)->xs.length<sizeLine->Q .non (upd H l (.lst (xs++[y])))->ahA x vs H Q
theorem Wh:MtM X "list.append" ahA:=by
 k_dat (vs,us,rv) "i"
 obtain⟨l,xs,y,rfl,rfl,hH,hz,q⟩:=h;cases rx;obtain⟨u,rfl,ru⟩:=rv.one;obtain⟨z,its,n,r,hl,e⟩:=I.yM hH;refine Dd F.slot_list_append #[_,e,rfl] F.entry_list_append (F.args_list_append_2 _ _) (PySem.list_append l its.toArray n u (by rw[bG];lia)) #[e,?_];show#[.non,_,I.aiP (its':=its++[u]) hH e (by simp) (r.append (.cons ru .nil)) ?_,rfl,q];rw[cu,List.length_singleton];lia
def ap9:V->List V->Hp->VK->Prop:=fun x vs H Q=>∃l b xs zs,x=.ref l/\vs=[.ref b]/\H l=some (.lst xs)/\H b=some (.lst zs)/\xs.length+zs.length<=sizeLine/\Q .non (upd H l (.lst (xs++zs)))
theorem Wj:MtM X "list.extend" ap9:=by
 k_dat (vs,us,rv) "i"
 obtain⟨l,b,xs,zs,rfl,rfl,hH,hB,hz,q⟩:=h;cases rx;obtain⟨u,rfl,ru⟩:=rv.one;cases ru;obtain⟨z,its,n,r,hl,e⟩:=I.yM hH;obtain⟨z2,its2,n2,r2,hl2,e2⟩:=I.yM hB;have hsz:its.toArray.size+its2.toArray.size<=sizeLine:=by rw[bG,bG];lia
 have hlong:¬ (!its.toArray.isEmpty && aeW (its.toArray.size+its2.toArray.size))=true:=by
  rw[abS hsz,alH];exact gM
 refine Dd F.slot_list_extend #[_,e,rfl] F.entry_list_extend (F.args_list_extend_2 _ _)
  (ate l its.toArray n b its2.toArray n2 hlong (by rw[bG];lia) tb_g%) #[e,e2,?_]
 show#[.non,_,I.aiP (its':=its++its2) hH e (by simp) (r.append r2) ?_,rfl,q];rw[cu];lia
def auD:V->List V->Hp->VK->Prop:=fun x vs H Q=>∃l xs i k y,x=.ref l/\vs=[.int i]/\H l=some (.lst xs) /\ -(2 ^ 63)<=i/\i<2 ^ 63/\seqIndex? i xs.length=some k/\xs[k]? = some y/\Q y (upd H l (.lst (xs.eraseIdx k)))
theorem ang:MtM X "list.pop" auD:=by
 k_dat (vs,us,rv) "i"
 obtain⟨l,xs,i,k,y,rfl,rfl,hH,h1,h2,hk,hy,q⟩:=h;cases rx;obtain⟨u,rfl,ru⟩:=rv.one
 k_dat (t,ru) "y"
 obtain⟨z,its,n,r,hl,e⟩:=I.yM hH;obtain⟨w,hw,rw'⟩:=r.get hy;refine Dd F.slot_list_pop #[_,e,rfl] F.entry_list_pop (F.args_list_pop_2 _ _)
  (atR l its.toArray n i t k w (fitsIndex_both h1 h2) (by rwa[bG,<-hl]) (by rwa[<-pR]) (by rw[bG];lia)) #[e,?_]
 show#[y,_,I.aiP (its':=its.eraseIdx k) hH e ?_ (r.eraseIdx k) ?_,rw',q]
 ·show its.toArray.eraseIdxIfInBounds k=(its.eraseIdx k).toArray;rw[List.eraseIdxIfInBounds_toArray]
 ·have:=Wg xs k;lia
def rCat:R2:=fun x y H Q=>∃l b xs zs,x=.ref l/\y=.ref b/\H l=some (.lst xs)/\H b=some (.lst zs)/\xs.length+zs.length<=sizeLine/\∀p,H p=none->Q (.ref p) (upd H p (.lst (xs++zs)))
theorem zV:OpR X (mZ .Add) rCat:=by
 k_dat (y,u,ry) "i"
 obtain⟨l,b,xs,zs,rfl,rfl,hH,hB,hz,q⟩:=h;cases rx;cases ry;obtain⟨z,its,n,r,hl,e⟩:=I.yM hH;obtain⟨z2,its2,n2,r2,hl2,e2⟩:=I.yM hB;refine PySem.P.add_list e e2 ?_ (by rw[bG,bG];lia);have ea:its.toArray++its2.toArray=(its++its2).toArray:=by simp
 rw[ea];show#[.ref _,_,I.lnew (t':=s.toks) (r.append r2) (by rw[cu];lia),rfl,q _ I.fresh]
end
section
variable{A:aU}{s:Shared}
end
section
variable{X:Cx}
end
section
variable{κ:Type}[DecidableEq κ]
def BP(kvs:List (κ × V))(k:κ):Option V:=(kvs.find? fun kv=>decide (kv.1=k)).map (·.2)
def putK(kvs:List (κ × V))(k:κ)(v:V):List (κ × V):=
 if(kvs.any fun kv=>decide (kv.1=k))=true then kvs.map (fun kv=>if kv.1=k then(kv.1,v)else kv)else kvs++[(k,v)]
theorem Gd{p:κ × V}(e:p.1=k):BP (p::r) k=some p.2:=by simp[BP,CG,e]
theorem Ge{p:κ × V}(e:¬ p.1=k):BP (p::r) k=BP r k:=by simp[BP,CG,e]
theorem abT(k:κ):∀kvs:List (κ × V),(kvs.any fun kv=>decide (kv.1=k))=(BP kvs k).isSome
 |[]=>rfl
 |p::r=>by
  rw[CP];by_cases e:p.1=k
  ·simp only[Gd e,mP e,Bool.true_or,Option.isSome_some]
  ·rw[Ge e,xj e,alI];exact abT k r
theorem Lg(kvs:List (κ × V))(k:κ)(v:V):(putK kvs k v).length<=kvs.length+1:=by
 unfold putK;split
 ·rw[aD];lia
 ·rw[cu,cD,aks];lia
theorem yL.JG(r:yL o u):o.isSome=u.isSome:=by
 cases o with
 |none=>cases u with
  |none=>rfl
  |some _=>exact(show False from r).elim
 |some _=>cases u with
  |none=>exact(show False from r).elim
  |some _=>rfl
theorem yL.getD(r:yL o u)(rd:RelV d d'):RelV (o.getD d) (u.getD d'):=by
 cases o with
 |none=>cases u with
  |none=>exact rd
  |some _=>exact(show False from r).elim
 |some _=>cases u with
  |none=>exact(show False from r).elim
  |some _=>exact r
theorem KV.val(r:KV kvs vs)(k:κ):yL (BP kvs k) (Dl vs k):=by
 unfold KV at r
 induction r with
 |nil=>exact True.intro
 | @cons p q ps qs h t ih =>
  obtain⟨h1,h2⟩:=h;by_cases e:p.1=k
  ·have e':q.1=k:=h1.symm.trans e;have b:Dl (q::qs) k=some q.2:=by simp[Dl,CG,e']
   rwa[Gd e,b]
  ·have e':¬ q.1=k:=fun z=>e (h1.trans z);have b:Dl (q::qs) k=Dl qs k:=by simp[Dl,CG,e']
   rwa[Ge e,b]
theorem KV.any(r:KV kvs vs)(k:κ):(kvs.any fun kv=>decide (kv.1=k))=vs.any fun kv=>decide (kv.1=k):=by
 unfold KV at r
 induction r with
 |nil=>rfl
 |cons h t ih=>rw[CP,CP,ih,h.1]
theorem KV.repl(r:KV kvs vs)(k:κ)(ry:RelV y u):
  KV (kvs.map fun kv=>if kv.1=k then(kv.1,y)else kv) (vs.map fun kv=>if kv.1=k then(kv.1,u)else kv):=by
 unfold KV at r ⊢
 induction r with
 |nil=>exact .nil
 | @cons p q ps qs h t ih =>
  rw[cR,cR];refine .cons ?_ ih;obtain⟨h1,h2⟩:=h;by_cases e:p.1=k
  ·rw[mI e,mI (h1.symm.trans e)];show#[h1,ry]
  ·rw[mB e,mB (fun z=>e (h1.trans z))];show#[h1,h2]
theorem KV.put(r:KV kvs vs)(k:κ)(ry:RelV y u):KV (putK kvs k y) (pL vs k u):=by
 unfold putK pL;rw[r.any k];by_cases e:(vs.any fun kv=>decide (kv.1=k))=true
 ·rw[mI e,mI e];exact r.repl k ry
 ·rw[mB e,mB e];exact amr r #[rfl,ry]
theorem KV.keys{kvs:List (κ × V)}{vs:List (κ × Value)}(r:KV kvs vs):kvs.map (·.1)=vs.map (·.1):=by
 unfold KV at r
 induction r with
 |nil=>rfl
 |cons h t ih=>rw[cR,cR,ih,h.1]
theorem KV.length{kvs:List (κ × V)}{vs:List (κ × Value)}(r:KV kvs vs):kvs.length=vs.length:=afs r
end
theorem abU(r:RelV (kV k) u):(bU P w).is k u=true:=by
 cases k with
 |inl i=>obtain⟨t,e⟩:=(show ∃t,u=Value.int i t from r);subst e;exact abI P w i t
 |inr x=>obtain⟨t,e⟩:=(show ∃t,u=Value.str x t from r);subst e;exact abJ P w x t
theorem Wk:∀{ks:List Key}{us:List Value},Vals (ks.map kV) us->ItemsAre (bU P w) ks us
 |[],_,r=>by rw[Ik]at r;cases r;exact .nil
 |k::ks,_,r=>by
  rw[cR]at r;cases r with
  |cons h t=>exact .cons (abU h) (Wk t)
abbrev KT(H:Hp):List (List Key × V)->List (List Key × Addr × Value)->Prop:=Paired fun p q=>p.1=q.1/\H q.2.1=some (.tup (p.1.map kV))/\RelV p.2 q.2.2
theorem KT.val(r:KT H kvs xs)(k:List Key):yL (BP kvs k) ((atKey xs k).map (·.2)):=by
 induction r with
 |nil=>exact True.intro
 | @cons p q ps qs h t ih =>
  obtain⟨h1,_,h2⟩:=h;by_cases e:p.1=k
  ·have e':q.1=k:=h1.symm.trans e;have b:atKey (q::qs) k=some q.2:=by simp[atKey,CG,e']
   rwa[Gd e,b]
  ·have e':¬ q.1=k:=fun z=>e (h1.trans z);have b:atKey (q::qs) k=atKey qs k:=by simp[atKey,CG,e']
   rwa[Ge e,b]
theorem KT.repl(r:KT H kvs xs)(k:List Key)(ry:RelV y u):
  KT H (kvs.map fun kv=>if kv.1=k then(kv.1,y)else kv) (xs.map (putAt k u)):=by
 induction r with
 |nil=>exact .nil
 | @cons p q ps qs h t ih =>
  rw[cR,cR];refine .cons ?_ ih;obtain⟨h1,h2,h3⟩:=h;unfold putAt;by_cases e:p.1=k
  ·rw[mI e,mI (h1.symm.trans e)];show#[h1,h2,ry]
  ·rw[mB e,mB (fun z=>e (h1.trans z))];show#[h1,h2,h3]
theorem KT.put(r:KT H kvs xs)(k:List Key)(hb:H b=some (.tup (k.map kV)))(ry:RelV y u):
  KT H (putK kvs k y) (storedH xs k b u):=by
 have e:(kvs.any fun kv=>decide (kv.1=k))=(atKey xs k).isSome:=by
  rw[abT,(r.val k).JG,alK]
 unfold putK storedH;rw[e];by_cases q:(atKey xs k).isSome=true
 ·rw[mI q,mI q];exact r.repl k ry
 ·rw[mB q,mB q];exact amr r #[rfl,hb,ry]
theorem KT.keeps(r:KT H kvs xs)(ht:∀b ys,H b=some (.tup ys)->H' b=some (.tup ys)):KT H' kvs xs:=
 Paired.mapP r fun _ _ z=>#[z.1,ht _ _ z.2.1,z.2.2]
section
variable{H:Hp}{h:Heap}
theorem arM(ok:HOk P w H h)(e:Rd H a u):dD P w H h a u:=e.ok ok
theorem zW(ok:HOk P w H h)(e:Rd H a (.dK kvs)):kvs.length<=sizeLine/\(a == rQ)=false/\∃vs,KV kvs vs/\h.DictOf (bU P w) a vs:=
 show dD P w H h a (.dK kvs)from arM ok e
theorem arN(ok:HOk P w H h)(e:H a=some (.dK kvs)):kvs.length<=sizeLine/\(a == rQ)=false/\∃vs,KV kvs vs/\h.DictOf (bU P w) a vs:=zW ok (.inl e)
theorem QV{ks:List Key}(ok:HOk P w H h)(e:H a=some (.tup (ks.map kV))):(IW (bU P w)).is h ks a:=by
 obtain⟨_,its,r,o,h1,h2,n,h3⟩:=(show dD P w H h a (.tup (ks.map kV))from ok a _ e);show#[o,its.toArray,n,h1,h2,h3,by simpa using Wk r]
theorem Wl(ok:HOk P w H h)(e:Rd H a (.dT kvs)):kvs.length<=sizeLine/\(a == rQ)=false /\
  ∃xs,KT H kvs xs/\h.DictOfH (IW (bU P w)) a xs:=by
 obtain⟨z,y,xs,r,o,es,ep,h1,h2,h3,h4,h5⟩:=(show dD P w H h a (.dT kvs)from arM ok e);show#[z,y,xs,r,o,es,ep,h1,h2,h3,h4,fun x hx=>?_,h5];have all:∀{l:List (List Key × V)} {m:List (List Key × Addr × Value)},KT H l m->∀x∈m,(IW (bU P w)).is h x.1 x.2.1:=by
  intro l m q
  induction q with
  |nil=>intro x hx;exact nomatch hx
  | @cons p q ps qs hq t ih =>
   intro x hx;rcases aP.mp hx with e|hx
   ·subst e;exact QV ok (by rw[<-hq.1];exact hq.2.1)
   ·exact ih x hx
 exact all r x hx
theorem dt_of(ok:HOk P w H h)(e:H a=some (.dT kvs)):kvs.length<=sizeLine/\(a == rQ)=false /\
  ∃xs,KT H kvs xs/\h.DictOfH (IW (bU P w)) a xs:=Wl ok (.inl e)
end
def Z7(H:Hp)(a:Addr)(y:V)(r:Option V):Prop:=
 (∃kvs k,Rd H a (.dK kvs)/\y=kV k/\r=BP kvs k)\/∃kvs k b,Rd H a (.dT kvs)/\y=.ref b/\H b=some (.tup (k.map kV))/\r=BP kvs k
def DPut(H:Hp)(a:Addr)(y v:V)(H':Hp):Prop:=
 (∃kvs k,H a=some (.dK kvs)/\y=kV k/\kvs.length<sizeLine/\H'=upd H a (.dK (putK kvs k v))) \/
 ∃kvs k b,H a=some (.dT kvs)/\y=.ref b/\H b=some (.tup (k.map kV))/\kvs.length<sizeLine/\H'=upd H a (.dT (putK kvs k v))
section
variable{X:Cx}{σ:St}{H:Hp}{s:Shared}{y v:V}{u r:Value}{o:Option V}{A:aU}
theorem Inv.big(I:Inv X pins σ H s):rQ< ~~~s:=by
 have h:cV< ~~~s:=(I.mod.glob.keeps I.bk).lt;exact m7 tb_g% h
theorem aiQ(hu:A.units+1<cLine)(I:Inv X pins σ H s)(g:Z7 H a y (some v))(ry:RelV y u)(h:∀w' s',Inv X pins σ H s'->RelV v w'->Q w' s'):
  wpAny (model X.prog X.w) A (Yy (.ref a) u) Q E s:=by
 rcases g with⟨kvs,k,e,ey,l⟩|⟨kvs,k,b,e,ey,eb,l⟩
 ·subst ey;obtain⟨z,hd,vs,rel,dd⟩:=zW I.hok e;obtain⟨w',hw,rw'⟩:=yL.some_of (v:=v) (o:=Dl vs k) (by rw[l];exact rel.val k);exact wpAny_getItem_of (abU ry) dd.mapOf hw (h w' _ (I.tok _) rw')
 ·subst ey;cases (show u=Value.ref b from ry);obtain⟨z,hd,xs,rel,dd⟩:=Wl I.hok e;obtain⟨w',hw,rw'⟩:=yL.some_of (v:=v) (o:=(atKey xs k).map (·.2)) (by rw[l];exact rel.val k);obtain⟨p,hp,hp2⟩:=lB.mp hw;refine wpAny_getItem_heap (Ye hu) (QV I.hok eb) dd hp ?_;rw[hp2];exact h w' _ (I.tok _) rw'
theorem aqa(hu:A.units+1<cLine)(I:Inv X pins σ H s)(g:Z7 H a y o)(ry:RelV y u)(h:∀s',Inv X pins σ H s'->Q (.bool (!o.isSome)) s'):
  wpAny (model X.prog X.w) A (fB .NotIn u (.ref a)) Q E s:=by
 rcases g with⟨kvs,k,e,ey,l⟩|⟨kvs,k,b,e,ey,eb,l⟩
 ·subst ey;obtain⟨z,hd,vs,rel,dd⟩:=zW I.hok e;refine wpAny_notIn_of (abU ry) hd dd.mapOf ?_;rw[<-(rel.val k).JG,<-l];exact h _ (I.tok _)
 ·subst ey;cases (show u=Value.ref b from ry);obtain⟨z,hd,xs,rel,dd⟩:=Wl I.hok e;refine wpAny_notIn_heap (Ye hu) (QV I.hok eb) hd dd ?_;have q:=(rel.val k).JG;rw[alK]at q;rw[<-q,<-l];exact h _ (I.tok _)
theorem ahB(I:Inv X pins σ H s)(mu:Mut (H a))(hs:lF a s.heap h')(he:∃q,h'.get? a=some q)(new:dD X.prog X.w (upd H a ob) h' a ob):
  Inv X pins σ (upd H a ob) { s with heap:=h',toks:=t' }:=
 I.write (x:=a) (e:=a) mu (.inl rfl) (fun b q hb z=>(hs.2 b hb).trans z) he new
theorem afU{h':Heap}{kvs:List (Key × V)}(z:kvs.length<=sizeLine)(hd:(a == rQ)=false)(rel:KV kvs vs)(dd:h'.DictOf (bU P w) a vs):
  dD P w H' h' a (.dK kvs):=#[z,hd,vs,rel,dd]
theorem aiR(hu:A.units+1<cLine)(I:Inv X pins σ H s)(g:DPut H a y v H')(ry:RelV y u)(rv:RelV v r)(h:∀s',Inv X pins σ H' s'->Q () s'):
  wpAny (model X.prog X.w) A (setItem (.ref a) u r) Q E s:=by
 rcases g with⟨kvs,k,e,ey,l,eH⟩|⟨kvs,k,b,e,ey,eb,l,eH⟩
 ·subst ey eH;obtain⟨z,hd,vs,rel,dd⟩:=arN I.hok e;have hz:vs.length<=sizeLine:=by rwa[<-rel.length]
  have hl:(putK kvs k v).length<=sizeLine:=by have:=Lg kvs k v;lia
  refine wpAny_setItem_pairs (hsz:=hz) (abU ry) dd fun h' dd' hs=>h _ ?_;have he:∃q,h'.get? a=some q:=let ⟨q,_,_,hq,_⟩:=dd';#[q,hq];exact ahB I (by rw[e];exact True.intro) hs he (afU hl hd (rel.put k rv) dd')
 ·subst ey eH;cases (show u=Value.ref b from ry);obtain⟨z,hd,xs,rel,dd⟩:=dt_of I.hok e;have hz:xs.length<=sizeLine:=by rwa[<-afs rel]
  have hl:(putK kvs k v).length<=sizeLine:=by have:=Lg kvs k v;lia
  refine wpAny_setItem_heap (hsz:=hz) (Ye hu) (QV I.hok eb) dd fun h' dd' hs=>h _ ?_;obtain⟨q,es,ep,hq,h2,h3,h4,_,h5⟩:=dd';refine ahB I (by rw[e];exact True.intro) hs #[q,hq] #[hl,hd,_,(rel.put k eb rv).keeps fun c ys ec=>?_,q,es,ep,hq,h2,h3,h4,h5];rwa[ao (fP ec e (fun z=>nomatch z))]
end
section
variable{X:Cx}{σ:St}{H:Hp}{s:Shared}{k:Key}{u:Value}{A:aU}
theorem d_len(I:Inv X pins σ H s)(e:Rd H a (.dK kvs))(h:∀t s',Inv X pins σ H s'->Q (.int kvs.length t) s'):wpAny (model X.prog X.w) A (call (.builtin "len") [.ref a]) Q E s:=by
 obtain⟨z,hd,vs,rel,dd⟩:=zW I.hok e;refine call_len_dict hd dd (by rw[<-rel.length];rw[Yq]at z;lia) ?_;rw[<-rel.length];exact h _ _ (I.tok _)
end
theorem abV{X:Cx}{pins:List (Addr × Obj)}{σ:St}{H:Hp}{s:Shared}{a:Addr}{y:V}{o:Option V}(I:Inv X pins σ H s)(g:Z7 H a y o):s.TypeIs (.ref a) "dict" := by
 rcases g with⟨kvs,k,e,_,_⟩|⟨kvs,k,b,e,_,_,_⟩
 ·obtain⟨_,_,vs,_,dd⟩:=zW I.hok e;exact dd.typeIs
 ·obtain⟨_,_,xs,_,dd⟩:=Wl I.hok e;exact dd.typeIs
section
variable{X:Cx}{o i e value:Expr}{pos pos' tpos:Pos}
end
theorem anh(h:Heap)(hb:rQ<h.objs.size):dD P w H (h.push { cls:=.type "dict",data:=.dict #[] }) h.objs.size (.dK []):=
 #[cg _,xk.mpr (aL (bJ hb)),[],.nil,amz h]
def auE:TE:=fun _ H Q=>∀p,H p=none->Q (.ref p) (upd H p (.dK []))
section
variable{X:Cx}{pos:Pos}
theorem abW:PE X (.Dict [] [] pos) auE:=fun pins s σ H Q I h =>
 wpAny_Dict_empty #[.ref (~~~s),_,I.laid (a:= ~~~s) (o:=.dK []) (t':=s.toks) (fun _ _ q=>cH _ q) (aK _) (anh s.heap I.big),rfl,h _ (I.hok.fresh (aK _))]
end
structure M1(X:Cx)(o:Expr)(m:Str)(apos:Pos)(e:Expr)(cpos:Pos):Prop where
 base:yW o m X.env (eval o X.env)=eval o X.env
 few:((fK cpos (cj [e] X.env)).all (fun x=>!x.1) && (Jb cpos (IK [] X.env)).all (fun x=>x.1.isSome)
  && decide (([e]:List Expr).length+([]:List rR).length+(if ([]:List rR).isEmpty then 0 else 1)<30))=true
 line:(apos.endLine == cpos.line)=true
 trees:fK cpos (cj [e] X.env)=[(false,eval e X.env)]
structure M2(X:Cx)(o:Expr)(m:Str)(apos:Pos)(e f:Expr)(cpos:Pos):Prop where
 base:yW o m X.env (eval o X.env)=eval o X.env
 few:((fK cpos (cj [e,f] X.env)).all (fun x=>!x.1) && (Jb cpos (IK [] X.env)).all (fun x=>x.1.isSome)
  && decide (([e,f]:List Expr).length+([]:List rR).length+(if ([]:List rR).isEmpty then 0 else 1)<30))=true
 line:(apos.endLine == cpos.line)=true
 trees:fK cpos (cj [e,f] X.env)=[(false,eval e X.env),(false,eval f X.env)]
def IsD(H:Hp)(a:Addr):Prop:=(∃kvs,Rd H a (.dK kvs))\/∃kvs,Rd H a (.dT kvs)
theorem afV{X:Cx}{pins:List (Addr × Obj)}{σ:St}{H:Hp}{s:Shared}{a:Addr}(I:Inv X pins σ H s)(d:IsD H a):
  s.TypeIs (.ref a) "dict" /\ (∀b,Value.ref a=.ref b->∃ob,s⁻¹ b=some ob/\ob.dict=none)/\(a == rQ)=false:=by
 rcases d with⟨kvs,e⟩|⟨kvs,e⟩
 ·obtain⟨_,hd,vs,_,dd⟩:=zW I.hok e;show#[dd.typeIs,fun b q=>?_,hd];cases q;obtain⟨ob,_,_,h1,h2,_⟩:=dd;show#[ob,h1,h2.2.1]
 ·obtain⟨_,hd,xs,_,dd⟩:=Wl I.hok e;show#[dd.typeIs,fun b q=>?_,hd];cases q;obtain⟨ob,_,_,h1,h2,_⟩:=dd;show#[ob,h1,h2.2.1]
section
variable{X:Cx}{σ:St}{H:Hp}{s:Shared}{y d:V}{u r:Value}{o:Option V}{A:aU}
theorem auF(hu:A.units+1<cLine)(I:Inv X pins σ H s)(g:Z7 H a y o)(ry:RelV y u)(rd:RelV d r)(h:∀w' s',Inv X pins σ H s'->RelV (o.getD d) w'->Q w' s'):
  wpAny (model X.prog X.w) A (call (.builtin "dict.get") [.ref a,u,r]) Q E s:=by
 rcases g with⟨kvs,k,e,ey,l⟩|⟨kvs,k,b,e,ey,eb,l⟩
 ·subst ey;obtain⟨z,hd,vs,rel,dd⟩:=zW I.hok e;refine ak1 afh dd.typeIs amf (amc _ _ _) (meets_dict_get_default (bU X.prog X.w) a (abU ry) hd r) #[_,dd.mapOf,h _ _ (I.tok _) ?_];rw[l];exact(rel.val k).getD rd
 ·subst ey;cases (show u=Value.ref b from ry);obtain⟨z,hd,xs,rel,dd⟩:=Wl I.hok e;refine ak1 afh dd.typeIs amf (amc _ _ _) (meetsH_dict_get_default (IW (bU X.prog X.w)) a b hd r) #[Ye hu,k,xs,QV I.hok eb,dd,h _ _ (I.tok _) ?_];rw[l];exact(rel.val k).getD rd
end
def auG(td ty tx:TE):TE:=fun σ H Q=>td σ H fun x H1=>∃a,x=.ref a/\IsD H1 a/\ty σ H1 fun y H2=>tx σ H2 fun z H3=>∃o,Z7 H3 a y o/\Q (o.getD z) H3
section
variable{X:Cx}{o e f:Expr}{apos cpos:Pos}{td ty tx:TE}
theorem abX(hu:X.A.units+1<cLine)(ho:PE X o td)(he:PE X e ty)(hf:PE X f tx)(m:M2 X o "get" apos e f cpos):PE X (.Call (.Attribute o "get" apos) [e,f] [] cpos) (auG td ty tx):=by
 k_dat (Q,h) "g"
 refine ad9 m.base m.few m.line afg afh PySem.F.type_dict_get (thn (ho pins s σ H _ I h) fun u s1 zq=>?_);obtain ⟨x,H1,I1,rx,a,ex,d,q1⟩:=zq;subst ex;obtain rfl:u=Value.ref a:=rx;obtain ⟨t1,t2,_⟩:=afV I1 d;show#[t1,t2,?_];rw [m.trees];refine afj rfl (afk (vI (thn (he pins s1 σ H1 _ I1 q1) fun iv s2 ⟨y,H2,I2,ry,q2⟩ =>
  vI (thn (hf pins s2 σ H2 _ I2 q2) fun fv s3 ⟨z,H3,I3,rz,ov,g,q3⟩=>zJ ?_))))
 exact auF hu I3 g ry rz fun w' s4 I4 rw'=>#[_,H3,I4,rw',q3]
end
section
variable{X:Cx}{σ:St}{H:Hp}{s:Shared}{A:aU}
theorem ani(I:Inv X pins σ H s)(e:Rd H a (.dK kvs))(h:∀p s',H p=none->Inv X pins σ (upd H p (.dK kvs)) s'->Q (.ref p) s'):wpAny (model X.prog X.w) A (call (.type "dict") [.ref a]) Q E s:=by
 obtain⟨z,hd,vs,rel,dd⟩:=zW I.hok e;refine kt_call_dict hd dd (by rwa[<-rel.length]) fun h' dd' hs=>?_;refine h _ _ (I.hok.fresh (aK _)) (I.laid (a:= ~~~s) (o:=.dK kvs) (t':=s.toks) (fun b q hq=>?_) (aK _) (afU z (xk.mpr (aL (bJ I.big))) rel dd'));exact(hs.2 b (bJ (aV hq))).trans (cH _ hq)
end
section
variable{X:Cx}{σ:St}{H:Hp}{s:Shared}{y:V}{u:Value}{A:aU}
end
end L2
namespace Att
open PySem PySem.W PySem.Calls PyProof.Rows
theorem Mh:∀ns vs,WellAll P h vs (ns.map WData.int)->IntsAre vs ns:=by
 intro ns
 induction ns with
 |nil =>
  intro vs w;rw[Ik]at w;cases w;exact .nil
 |cons n ns ih =>
  intro vs w;rw[cR]at w;cases w with
  |cons a b =>
   cases a;exact .cons _ _ (ih _ b)
theorem aiS{l:OpenLaw}(hn:l.most=some n){vals:List Value}
  (hpre:l.row.toRowW.claim.pre args=true) (hwl:WellAll P h vals args):
  ∃a vs ns,vals=[Value.ref a]/\args=[WData.list (ns.map WData.int)]/\h.get? a=some { cls:=.type "list",data:=.seq vs.toArray }/\IntsAre vs ns/\ns.length<=n:=by
 have hsh:WShape.hasAll [] args [.list .int]=true:=(pre_splitW hpre).1;have hc:l.pre.holds [] { args:=args }=true:=(pre_splitW hpre).2;obtain⟨d,r,rfl,h1,h2⟩:=hasAllW_cons hsh;obtain rfl:=hasAllW_nil h2;obtain⟨xs,rfl,h3⟩:=hasW_list h1;obtain⟨ns,rfl⟩:=items_int h3;have hlen:ns.length<=n:=by
  unfold OpenLaw.pre at hc;have h4:(WTm.not (.lt (.lit (.int (n:Int))) (.len (.arg 0)))).holds [] { args:=[.list (ns.map .int)] }=true:=by
   have h4:=(holds_andW hc).1;rwa[hn]at h4
  have h5:=condW_of h4 (w_not (w_lt w_lit (w_len_list (w_arg rfl))));rw[aD]at h5;refine aeE fun q=>?_;have q':(n:Int)<((ns.length:Nat):Int):=by lia
  first
   |(rw[mP q']at h5;exact mM h5 tb_g%)
   |(simp at h5;lia)
 cases hwl with
 |cons w1 w2 =>
  cases w2;cases w1 with
  |list ho hall=>show#[_,_,ns,rfl,rfl,ho,Mh ns _ hall,hlen]
theorem aiT(l:OpenLaw)(args:List WData):l.row.toRowW.claim.post args (.bool true) args=true:=
 postW_of (r:=l.row.toRowW) (X:=(true == true))
  (show WShape.has [] (.bool true) .bool=true by first|rfl|decide|simp[WShape.has,WShape.arms,WShape.armsAll])
  (show(WTm.eq .res (.lit (.bool true))).value [] { args:=args,res:=some (.bool true),after:=args }=some (.bool (true == true))from w_eq_bool (w_res rfl) w_lit) rfl
theorem abY{l:OpenLaw}{d:YF}
  (hn:l.most=some n) (hdf:d.params.defaults=[])
  (call:∀w s₀ s₁ mg mb fa o pm cd doc a vs ns,
   Ground q loose [] XP w s₀ mg mb s₁.heap->YP w s₁.heap ->
   s₁⁻¹ fa=some o->o.data=.func (docDef d.name d.params d.body d.scope pm cd doc)->s₁.heap.CodeRec cd d.name->mg d.name=some (.ref fa) ->
   s₁⁻¹ a=some { cls:=.type "list",data:=.seq vs.toArray }->IntsAre vs ns->ns.length<=n->s₁.gens=#[] ->
   fY (model l.prog w) Dm (.call (.ref fa) #[[.ref a],[]]) (fun r s'=>r = .ok (.ret (.bool true))/\OldK s₁.heap s'.heap/\s'.os=s₁.os/\zF s'.gens) s₁) :
  WalkO q loose XP YP l.row.toRowW d [] (fun f vs=>Yr f vs):=by
 intro w s₀ s₁ mg mb G Y fa o pm cd doc dV kV ho hd hcd hD hmg hg args vals as hpre hlay hrd hwl hlo;obtain rfl:dV=.none:=Dflts.none hD hdf;obtain rfl:kV=.none:=Dflts.noKw hD;obtain⟨a,vs,ns,rfl,rfl,hobj,hints,hlen⟩:=aiS hn hpre hwl;refine enter_call (yZ (call w s₀ s₁ mg mb fa o pm cd doc a vs ns G Y ho (fd_plain hd) hcd hmg hobj hints hlen hg) fun r s' hq=>?_);obtain⟨rfl,h2,h3,h4⟩:=hq;show#[.inl #[.bool true,.bool true,[],rfl,fun _=>rfl,.bool true,aiT l _,fun _=>#[List.Pairwise.nil,fun _ hm=>(nomatch hm)]],h2,h3,h4]
section
variable{A:aU}{s:Shared}{K:Frag}
def ledger(h:Heap)(L d:Addr):List (Addr × Obj):=(gY h.objs.size).filterMap fun a=>if a=L\/a=d then none else(h.get? a).map fun o=>(a,o)
end
end Att
namespace L2
open PySem PySem.Spec PyProof.Rows
theorem pD:∀{vs:List Value}{ns:List Int},IntsAre vs ns->Vals (ns.map V.int) vs
 |_,_,.nil=>.nil
 |_,_,.cons n t h=>.cons #[t,rfl] (pD h)
def Only(H:Hp):Prop:=∀b,H b=none\/∃o xs,H b=some (.frz o (.lst xs))
theorem anj{K:aH}{s₁:Shared}{vs:List Value}
  (KX:K.In s₁.heap) (hns:s₁.heap.Ns cV mg) (hb:s₁.heap.Ns aen mb) (hbb:∀x:Str,x ≠ "__name__" -> mb x=yX x) (hlim:s₁.heap.NoLimit) (hg:s₁.gens=#[])
  (ha:s₁⁻¹ a=some { cls:=.type "list",data:=.seq vs.toArray }) (hi:IntsAre vs ns) (hl:ns.length<=sizeLine) (hr:iU k Dm)
  (F:∀base:Heap,K.In base->base.Ns cV mg->wg P w K mg base CX k fa fd [x] sp) (hbind:∀s u,Jc s fd #[[u],[]] [(x,u)])
  (hsp:∀H:Hp,Only H->SqL K H a (ns.map V.int)->sp [.ref a] H (fun v _=>v=.bl true) fun _ _ _=>False)
  (hCX:∀H e s',CX [] H s₁ (fun _ _ _=>False) e s'->False):
  fY (model P w) Dm (.call (.ref fa) #[[.ref a],[]]) (fun r s'=>r=.ok (.ret (.bool true))/\OldK s₁.heap s'.heap/\s'.os=s₁.os/\zF s'.gens) s₁:=by
 have rv:=pD hi;have lenV:=hi.length;have core:∀H:Hp,Only H->SqL K H a (ns.map V.int)->HOk P w H s₁.heap->(∀b,H b≠none->b=a)->(H a≠none->K.lookup a=none) ->
   fY (model P w) Dm (.call (.ref fa) #[[.ref a],[]]) (fun r s'=>r=.ok (.ret (.bool true))/\OldK s₁.heap s'.heap/\s'.os=s₁.os/\zF s'.gens) s₁:=by
  intro H hO hS hok hA hK;have ahC:∀{b:Addr}{o:Obj},s₁⁻¹ b=some o->H b=none->(ZP s₁.heap H).get? b=some o:=fun e n=>amP e n;have noA:∀{b:Addr}{o:Obj}{es:Array aeu}{ep:Nat},s₁⁻¹ b=some o->o.data=.dict es ep->H b=none:=fun {b o es ep} e d=>by
   cases q:H b with
   |none=>rfl
   |some u =>
    have e':b=a:=hA b (by rw[q];simp);subst e';rw[ha]at e;cases e;have d':Data.seq vs.toArray _=Data.dict es ep:=d;cases d'
  have nsK:∀ {b:Addr} {m:Str->Option Value},s₁.heap.Ns b m->(ZP s₁.heap H).Ns b m:=fun {b m} ⟨o,es,ep,e,d,r⟩=>#[o,es,ep,ahC e (noA e d),d,r];have hKb:K.In (ZP s₁.heap H):=fun b o e=>ahC (KX b o e) (by
   cases q:H b with
   |none=>rfl
   |some u =>
    have e':b=a:=hA b (by rw [q];simp);subst e';rw [hK (by rw [q];simp)] at e;cases e)
  have hM:Mod K mg (ZP s₁.heap H):=#[hKb,nsK hns,#[mb,nsK hb,hbb],let ⟨mc,h1,h2⟩:=hlim;#[mc,nsK h1,h2]];have e0:Uw P w K mg (ZP s₁.heap H) Dm [] s₁ H:=#[rfl,hM,fun b o e=>apQ e,Qa (aiG _ _),trivial,fun b hb=>mM (show b∈([]:List Addr)from hb) (by simp),hok,.of_eq hg];refine yZ ((F _ hKb (nsK hns)).run Dm [] s₁ H #[[.ref a],[]] [.ref a] [.ref a] _ _ hr e0 (hbind s₁ (.ref a)) (.cons rfl .nil) (hsp H hO hS)) fun r s' h=>?_;cases r with
  |error e=>exact(hCX H e s' h).elim
  |ok fl =>
   cases fl with
   |next=>exact jz h
   |brk=>exact jz h
   |cont=>exact jz h
   |ret u =>
    obtain⟨v,H',os,bare,un,hok',r',q⟩:=h;have q':v=.bl true:=q;subst q';obtain rfl:u=Value.bool true:=r';show#[rfl,OldK.of_keep fun b o e=>?_,os,bare];cases q:H b with
    |none=>exact un.keep b o e q (by intro z;exact mM (show b∈([]:List Addr)from z) (by simp)) (by simp)
    |some u =>
     rcases hO b with z|⟨ob,xs,z⟩
     ·rw[q]at z;cases z
     ·have z2:=un.JB b ob _ z;obtain⟨e1,_⟩:=hok b _ z;obtain⟨e2,_⟩:=hok' b _ z2;rw[e]at e1;cases e1;exact e2
 cases hk:K.lookup a with
 |some o =>
  have e:=KX a o hk;rw[ha]at e;cases e;refine core (fun _=>none) (fun _=>.inl rfl) (.inr #[_,vs.toArray,_,hk,rfl,rfl,rfl,by rwa[bG,lenV],by simpa using rv]) (fun b u z=>by have z':(none:Option HO)=some u:=z;cases z') (fun b z=>mM rfl z) fun z=>mM rfl z
 |none =>
  refine core (fun b=>if b=a then some (.frz { cls:=.type "list",data:=.seq vs.toArray } (.lst (ns.map V.int)))else none) (fun b=>?_) (.inl (.inr #[{ cls:=.type "list",data:=.seq vs.toArray },mI rfl])) (fun b u z=>?_) (fun b z=>?_) fun _=>hk
  ·by_cases hb:b=a
   ·exact .inr #[_,_,mI hb]
   ·exact .inl (mB hb)
  ·by_cases hb:b=a
   ·have z':=(mI hb).symm.trans z;cases z';subst hb;show#[ha,by rwa[aD],vs,_,rv,ha]
   ·have z':=(mB hb).symm.trans z;cases z'
  ·by_cases hb:b=a
   ·exact hb
   ·exact mM (mB hb) z
abbrev KOf{K:aH}{h:Heap}(_:K.In h):aH:=K
theorem aqb{l:PySem.W.OpenLaw}{n k:Nat}{q:aN}{loose:List Str}{XP:(Str->Option Value)->Heap->Prop}{YP:World->Heap->Prop}{d:YF}{K:Jd->aH}{CX:World->CXT}{sp:World->Sp}{x:Str}
  (hn:l.most=some n) (hn2:n<=sizeLine) (hdf:d.params.defaults=[]) (hr:iU k Dm)
  (hY:∀(w:World)(h:Heap),YP w h->(K w.params).In h)
  (F:∀ (w:World) (mg:Str->Option Value) (fa:Addr) (h:Heap),(K w.params).In h->h.Ns cV mg->mg d.name=some (.ref fa) ->
   ∃fd:FuncData,(∀(s:Shared)(u:Value),Jc s fd #[[u],[]] [(x,u)]) /\
    ∀ base:Heap,(K w.params).In base->base.Ns cV mg->wg l.prog w (K w.params) mg base (CX w) k fa fd [x] (sp w))
  (hsp:∀(w:World)(H:Hp)(a:Addr)(ns:List Int),ns.length<=n->Only H->SqL (K w.params) H a (ns.map V.int)->sp w [.ref a] H (fun v _=>v=.bl true) fun _ _ _=>False)
  (hCX:∀(w:World)(H:Hp)(s:Shared)(e:Value)(s':Shared),CX w [] H s (fun _ _ _=>False) e s'->False):
  aeA q loose XP YP l.row.toRowW d [] (fun f vs=>Yr f vs):=by
 refine Att.abY hn hdf fun w s₀ s₁ mg mb fa o pm cd doc a vs ns G Y ho hd hcd hmg hobj hints hlen hg=>?_;have KX:=hY w _ Y;obtain⟨fd,hb,hF⟩:=F w mg fa _ KX G.T.g hmg;exact anj KX G.T.g G.T.b G.T.builtins G.T.nolimit hg hobj hints (cW hlen hn2) hr hF hb (fun H hO hS=>hsp w H a ns hlen hO hS) fun H e s'=>hCX w H s₁ e s'
abbrev CX0:CXT:=fun _ _ _ _ _ _=>False
abbrev E0:XK:=fun _ _ _=>False
theorem ahD:Passes CX0 X E0:=fun _ _ _ _ _ _ _ h=>h.elim
structure Fun(K:aH)(x qual:Str)(st:Stmt)(f:Addr)(fd:FuncData):Prop where
 ex:∃(oc:Value)(od:Option Addr)(kV doc pm:Value)(an:Option Addr)(cdv ct:Value) (osl:Array (Option Value)),
  fd=lE x qual (jP st) (jr st) (aq st) .none kV doc pm an cdv ct/\K.lookup f=some #[oc,od,.func fd,osl]/\PK K cdv qual=true
 kp:rZ K (.ref f)=true
section
variable{K:aH}{mg:Str->Option Value}
theorem Fun.ok{x qual:Str}{st:Stmt}{f:Addr}{fd:FuncData}{N ps:List Str}{k:Nat}{sp:Sp}(F:Fun K x qual st f fd)(S:aC N ps (aq st))(len:∀vs H Q E,sp vs H Q E->vs.length=ps.length)
  (hbody:∀cdv A outer s H vs Q E,iU k (A.deeper (vG qual (aq st) (~~~s) f cdv))->sp vs H Q E ->
   ∃ t,PSs (aiN CX0 P w K mg base N qual (aq st) f cdv A outer s H E).nox (jr st) t/\t { nx:=fun _ H'=>Q .non H',rt:=Q } (start N vs) H):wg P w K mg base CX0 (k+1) f fd ps sp:=by
 obtain⟨oc,od,kV,doc,pm,an,cdv,ct,osl,rfl,lk,hcd⟩:=F.ex;refine fn_of lk hcd S len fun A outer s H vs Q E hr hsp=>?_;obtain⟨t,h,q⟩:=hbody cdv A outer s H vs Q E hr hsp;show#[t,h.nox,q]
theorem Fun.binds{x qual:Str}{st:Stmt}{f:Addr}{fd:FuncData}{ps:List Str}(F:Fun K x qual st f fd)
  (h:∀kV doc pm an cdv ct us,us.length=ps.length->Df (lE x qual (jP st) (jr st) (aq st) .none kV doc pm an cdv ct) #[us,[]]=pure (ps.zip us)):Binds K fd ps []:=by
 obtain⟨oc,od,kV,doc,pm,an,cdv,ct,osl,rfl,lk,hcd⟩:=F.ex;exact .all (h kV doc pm an cdv ct)
theorem auH{x qual:Str}{st:Stmt}{f:Addr}{oc:Value}{od an:Option Addr}{osl:Array (Option Value)}{kV doc pm cdv ct:Value}(l:K.lookup f=some #[oc,od,.func (lE x qual (jP st) (jr st) (aq st) .none kV doc pm an cdv ct),osl])
  (c:PK K cdv qual=true) (k:rZ K (.ref f)=true):Fun K x qual st f (lE x qual (jP st) (jr st) (aq st) .none kV doc pm an cdv ct):=#[#[oc,od,kV,doc,pm,an,cdv,ct,osl,rfl,l,c],k]
end
theorem hu_of(hr:iU k A):A.units+1<cLine:=oM (aeD (by decide:1<=64) _) hr.units
theorem aJ(h:n<=1000):n<sizeLine:=oM h tb_g%
section
variable{X:Cx}
theorem pv(i:Nat){x:Str}{pos:Pos}(hN:X.N[i]? = some x:=by rfl)(hv:Vis X.env.scope x:=by first|exact Or.inl rfl|exact Or.inr (Or.inl rfl)|exact Or.inr (Or.inr rfl))(hd:(x == ("__debug__" : Str))=false:=by decide)
  (hcd:(x == ("__classdict__" : Str))=false:=by decide):PE X (.Name x pos) (tVar i):=aud hN hv hd hcd
end
theorem JH{A B:Prop}(h:B):if false=true then A else B:=by
 rwa[mB gM]
theorem Uy{A B:Prop}(h:A):if true=true then A else B:=by
 rwa[mI rfl]
theorem dh{c A B:Prop}[Decidable c](h1:c->A)(h2:¬ c->B):if c then A else B:=by
 by_cases h:c
 ·rw[mI h];exact h1 h
 ·rw[mB h];exact h2 h
theorem yg{c A B:Prop}[Decidable c](hc:c)(h:B):if(!decide c)=true then A else B:=by
 rw[mP hc];exact JH h
def Same(H H':Hp):Prop:=∀b o,H b=some o->H' b=some o
theorem Same.refl(H:Hp):Same H H:=fun _ _ h=>h
theorem Same.trans(a:Same H H1)(b:Same H1 H2):Same H H2:=fun c o h=>b c o (a c o h)
theorem Same.free(e:Same H H')(h:H' l=Option.none):H l=Option.none:=by
 cases q:H l with
 |none=>rfl
 |some o =>
  rw[e l o q]at h;cases h
theorem Same.seq{K:aH}(e:Same H H')(h:SqL K H a xs):SqL K H' a xs:=by
 rcases h with(h|⟨o,h⟩)|h
 ·exact .inl (.inl (e _ _ h))
 ·exact .inl (.inr #[o,e _ _ h])
 ·exact .inr h
section
variable{κ:Type}[DecidableEq κ]
end
section
variable{X:Cx}
def ahE(K:aH):List V->Hp->VK->Prop:=fun xs H Q=>(∃x n,xs=[x]/\LenV K x H n/\Q (.int n) H)\/∃a kvs,xs=[V.ref a]/\Rd H a (.dK kvs)/\Q (.int kvs.length) H
theorem afW:gA X (.builtin "len") (fun xs H Q=>∃a kvs,xs=[V.ref a]/\Rd H a (.dK kvs)/\Q (.int kvs.length) H):=by
 walk_at "l"
 obtain⟨a,kvs,rfl,ha,q⟩:=h
 walk_at "x"
 cases ru;exact d_len I ha fun t s' I'=>#[.int kvs.length,H,I',#[t,rfl],q]
theorem aiU:gA X (.builtin "len") (ahE X.K):=am5.or afW
def QW(K:aH):R2:=fun x y H Q=>rIxL K x y H Q\/rIxT K x y H Q\/∃a v,x=.ref a/\Z7 H a y (some v)/\Q v H
theorem aqc(hu:X.A.units+1<cLine):IxR X (fun x y H Q=>∃a v,x=.ref a/\Z7 H a y (some v)/\Q v H):=by
 intro value slice pins s σ H x y v u Q I rx ry h hs;obtain⟨a,z,rfl,g,q⟩:=h;obtain rfl:v=Value.ref a:=rx;have hT:=abV I g;unfold Ze;refine aA ?_;rw[getitemInPython_of_ne hT.not_modules];refine aA (Iv hT PySem.F.slot_dict_getitem.lookup ?_);have fin:wpAny (model X.prog X.w) X.A (ael slice false (.ref a) u) (fun r s₃=>wpAny (model X.prog X.w) X.A (letTemporaryGo value (.ref a) r >>= fun _=>pure r) (EP X pins σ Q) X.xe s₃) X.xe s:=by
  rw[hs];exact wpAny_operating (aiQ hu I g ry fun w' s3 I3 rw'=>aA (wpAny_letTemporaryGo (aF #[z,H,I3,rw',q])))
 first
  |exact aF (aA fin)
  |exact aA (aF (aA fin))
  |exact aA fin
theorem ixG(hu:X.A.units+1<cLine):IxR X (QW X.K):=ap7.or (auz.or (aqc hu))
def arO:V->V->V->Hp->(Hp->Prop)->Prop:=fun o i v H Q=>arL o i v H Q\/∃a H',o=.ref a/\DPut H a i v H'/\Q H'
theorem setG(hu:X.A.units+1<cLine):PSet X arO:=by
 intro pins s σ H o i v ov iv u Q I ro ri rv h;rcases h with h|⟨a,H',rfl,g,q⟩
 ·exact set_list pins s σ H o i v ov iv u Q I ro ri rv h
 ·obtain rfl:ov=Value.ref a:=ro;exact aiR hu I g ri rv fun s' I'=>#[H',I',q]
def rInG(K:aH)(neg:Bool):R2:=fun x y H Q=>rIn K neg x y H Q\/∃a o,y=.ref a/\Z7 H a x o/\Q (.bl (if neg then !o.isSome else o.isSome)) H
theorem auI(hu:X.A.units+1<cLine):OpR X (fB .NotIn) (rInG X.K true):=by
 k_dat (y,u,ry) "i"
 rcases h with h|⟨a,o,rfl,g,q⟩
 ·exact Z4 pins s σ H x y v u Q I rx ry h
 ·obtain rfl:u=Value.ref a:=ry;exact aqa hu I g rx fun s' I'=>#[.bl (!o.isSome),H,I',rfl,q]
def auJ:List V->Hp->VK->Prop:=fun xs H Q=>∃a kvs,xs=[V.ref a]/\Rd H a (.dK kvs)/\∀p,H p=none->Q (.ref p) (upd H p (.dK kvs))
theorem QX:gA X (.type "dict") auJ:=by
 walk_at "l"
 obtain⟨a,kvs,rfl,ha,q⟩:=h
 walk_at "x"
 cases ru;exact ani I ha fun p s' hp I'=>#[.ref p,_,I',rfl,q p hp]
theorem ahF(h:(bU P w).is k u=true):RelV (kV k) u:=by
 rcases eU (show QG k u=true from h)with⟨i,t,rfl,rfl⟩|⟨x,t,rfl,rfl⟩
 ·show#[t,rfl]
 ·show#[t,rfl]
theorem JK:∀{kvs:List (Key × V)} {vs:List (Key × Value)} {us:List Value},KV kvs vs->us.length=vs.length ->
  (∀(j:Nat)(u:Value),us[j]? = some u->∃k x,vs[j]? = some (k,x)/\(bU P w).is k u=true)->Vals (kvs.map fun p=>kV p.1) us
 |[],_,[],.nil,_,_=>.nil
 |[],_,_::_,.nil,hl,_=>by cases hl
 |_::_,_,[],.cons _ _,hl,_=>by cases hl
 |p::ps,_,u::us,.cons (b:=q) r t,hl,h=>by
  obtain⟨k,x,e,hk⟩:=h 0 u rfl;have e':q=(k,x):=by simpa using e
  have e2:p.1=k:=by rw[r.1,e']
  refine .cons (by show RelV (kV p.1) u;rw[e2];exact ahF hk) (JK (P:=P) (w:=w) t (by simpa using hl) fun j v hv=>?_);obtain⟨k',x',e'',hk'⟩:=h (j+1) v (by simpa using hv);show#[k',x',by simpa using e'',hk']
theorem Wm:∀{kvs:List (Key × V)} {vs:List (Key × Value)} {us:List Value},KV kvs vs->us.length=vs.length ->
  (∀(j:Nat)(u:Value),us[j]? = some u->∃k,vs[j]? = some (k,u))->Vals (kvs.map (·.2)) us
 |[],_,[],.nil,_,_=>.nil
 |[],_,_::_,.nil,hl,_=>by cases hl
 |_::_,_,[],.cons _ _,hl,_=>by cases hl
 |p::ps,_,u::us,.cons (b:=q) r t,hl,h=>by
  obtain⟨k,e⟩:=h 0 u rfl;have e':q=(k,u):=by simpa using e
  refine .cons (by have:=r.2;rwa[e']at this) (Wm t (by simpa using hl) fun j v hv=>?_);obtain⟨k',e''⟩:=h (j+1) v (by simpa using hv);show#[k',by simpa using e'']
def ank:List V->Hp->VK->Prop:=fun xs H Q=>∃a kvs,xs=[V.ref a]/\Rd H a (.dK kvs)/\∀p,H p=none->Q (.ref p) (upd H p (.lst (kvs.map fun p=>kV p.1)))
theorem afX(hc:X.calm=true):gA X (.type "list") ank:=by
 walk_at "l"
 obtain⟨a,kvs,rfl,ha,q⟩:=h
 walk_at "x"
 cases ru;obtain⟨z,hd,vs,rel,dd⟩:=zW I.hok ha;obtain⟨ep,hat⟩:=dd.dictAt;have hl:=rel.length;refine PySem.W.kdl_call (ak7 (knd:=bU X.prog X.w) (kvs:=vs) (ep:=ep) hd) (I.ok.hd hc) hat (by rwa[<-hl]) fun h' tk acc' c' hk hD hacc=>?_;have hv:Vals (kvs.map fun p=>kV p.1) acc'.toList:=JK rel (by rw[qZ];exact hacc.1) fun j v e=>hacc.2 j v (by rwa[<-pR]);show#[.ref (~~~s),_,I.laid (a:= ~~~s) (o:=.lst (kvs.map fun p=>kV p.1)) (t':=tk) hk (aK _) ?_,rfl,q _ (I.hok.fresh (aK _))];show#[by rwa[aD],acc'.toList,c',hv,by first|(rwa[Y7])|simpa using hD]
def anl(K:aH):List V->Hp->VK->Prop:=fun xs H Q=>(∃p ys,xs=[.ref p]/\(SqL K H p ys\/SqT K H p ys)/\∀l,H l=none->Q (.ref l) (upd H l (.lst ys)))\/ank xs H Q
theorem qw(hc:X.calm=true):gA X (.type "list") (anl X.K):=Z6.or (afX hc)
variable{a b c d:Expr}{pos:Pos}
end
section
variable{H H':Hp}{h h':Heap}{a:Addr}{o:HO}
theorem dD.ex(x:dD P w H h a o):∃u,h.get? a=some u:=by
 cases o with
 |lst xs=>obtain⟨_,_,_,_,e⟩:=x;show#[_,e]
 |tup xs=>obtain⟨_,_,_,ob,e,_⟩:=x;show#[ob,e]
 |dK kvs=>obtain⟨_,_,_,_,o,_,_,e,_⟩:=x;show#[o,e]
 |dT kvs=>obtain⟨_,_,_,_,o,_,_,e,_⟩:=x;show#[o,e]
 |set S n=>obtain⟨o,_,_,_,e,_⟩:=x;show#[o,e]
 |ins C dx fs=>obtain⟨_,_,_,e,_⟩:=x;show#[_,e]
 |own y=>exact x
 |xd fs=>obtain⟨_,⟨o,_,_,e,_⟩,_⟩:=x;show#[o,e]
 |rng lo hi=>obtain⟨_,_,_,e⟩:=x;show#[_,e]
 |frz ob u=>obtain⟨e,_⟩:=x;show#[_,e]
 |tbl ps=>show#[_,show h.get? a=some _ from x]
 |met f y=>show#[_,show h.get? a=some _ from x]
 |ext φ=>obtain⟨_,⟨o,e⟩,_⟩:=x;show#[o,e]
theorem HOk.QZ(x:HOk P w H h)(k:∀b u,h.get? b=some u->h'.get? b=some u)(hn:H a=none)(new:dD P w (upd H a o) h' a o):HOk P w (upd H a o) h':=fun b u e=>by
 by_cases hb:b=a
 ·subst hb;rw[aj]at e;cases e;exact new
 ·rw[ao hb]at e;exact(x b u e).stay (fun c v _ q=>k c v q) (fun c q=>by rwa[ao (ak q hn)]) fun c xs q=>by rwa[ao (ak q hn)]
theorem Un.QZ{fs ex:List Addr}(k:∀b u,h.get? b=some u->h'.get? b=some u)(hne:∀b u,h.get? b=some u->b≠a)(hn:H a=none):Un fs ex H (upd H a o) h h' where
 keep:=fun b u q _ _ _=>k b u q
 slot:=fun b u q _ _ _=>#[u.slots,k b u q]
 free:=fun b u q n _=>by rwa[ao (hne b u q)]
 there:=fun b u q _=>#[u,k b u q]
 tups:=fun b xs q=>by rwa[ao (ak q hn)]
 JB:=fun b u xs q=>by rwa[ao (ak q hn)]
 QH:=fun b ps q=>#[#[],by rw[ao (ak q hn),q];simp]
end
section
variable{X:Cx}{pins:List (Addr × Obj)}{σ:St}{H H':Hp}{s:Shared}{h':Heap}
theorem Inv.none_of(I:Inv X pins σ H s)(hne:∀b u,s⁻¹ b=some u->b≠a):H a=none:=by
 cases q:H a with
 |none=>rfl
 |some u =>
  obtain⟨v,e⟩:=(I.hok a u q).ex;exact mM rfl (hne a v e)
theorem Inv.QZ(I:Inv X pins σ H s)(k:∀b u,s⁻¹ b=some u->h'.get? b=some u)(hne:∀b u,s⁻¹ b=some u->b≠a)(new:dD X.prog X.w (upd H a o) h' a o):
  Inv X pins σ (upd H a o) { s with heap:=h',toks:=t' }:=I.un (Un.QZ k hne (I.none_of hne)) (I.hok.QZ k (I.none_of hne) new)
theorem Inv.anm{t':Nat}{it t:Addr}{o:HO}(I:Inv X pins σ H s)(k:∀b u,b≠it->s⁻¹ b=some u->h'.get? b=some u)(hie:∃u,h'.get? it=some u)(hn:H it=none)(hL:it≠X.env.locals)
  (h1:it∈X.ex\/X.s₀.heap.objs.size<=it) (h2:∀x c,X.env.cells.lookup x=some c->c≠it) (h3:∀p∈X.pn++pins,p.1≠it) (ht: ~~~s<=t)
  (new:dD X.prog X.w (upd H t o) h' t o):Inv X pins σ (upd H t o) { s with heap:=h',toks:=t' }:=by
 have nit:∀b u,H b=some u->b≠it:=fun b u e z=>by rw[z,hn]at e;cases e
 have ntt:H t=none:=I.hok.fresh ht;have lt:∀b u,s⁻¹ b=some u->b≠t:=fun b u e=>bJ (eZ (aV e) ht);refine I.step (g':=s.gens) (d':=s.drawn) (ch:=[it]) (fun b hb=>?_) (fun b o _ _ hc e _=>k b o (fun z=>hc (by simp[z])) e) (fun b o _ _ hc e _=>#[o.slots,k b o (fun z=>hc (by simp[z])) e]) (fun b u _ e n=>by rwa[ao (lt b u e)])
  (fun b o hc e=>#[o,k b o (fun z=>hc (by simp[z])) e]) (fun b xs e=>by rwa[ao (ak e ntt)]) (fun b q u e=>by rwa[ao (ak e ntt)]) (fun b ps e=>#[#[],by rw[ao (ak e ntt),e];simp]) (fun m hm=>?_) (fun b u e=>?_) I.bare
 ·have e:b=it:=by simpa using hb
  subst e;show#[h1,hL,h2,h3]
 ·obtain⟨o,es,ep,ho,r⟩:=hm;show#[o,es,ep,k _ o (aL hL) ho,r]
 ·by_cases hb:b=t
  ·subst hb;rw[aj]at e;cases e;exact new
  ·rw[ao hb]at e;refine(I.hok b u e).stay (fun c v hc q=>k c v ?_ q) (fun c q=>by rwa[ao (ak q ntt)]) fun c xs q=>by rwa[ao (ak q ntt)]
   rcases hc with z|z
   ·rw[z];exact nit b u e
   ·exact nit c _ z
theorem Inv.freeze(I:Inv X pins σ H s)(e:H a=some (.dK kvs)):∃o es ep,o.data=.dict es ep/\s⁻¹ a=some o/\Inv X pins σ (upd H a (.frz o (.dK kvs))) s:=by
 obtain⟨z,hd,vs,rel,o,es,ep,ho,hx⟩:=arN I.hok e;show#[o,es,ep,hx.2.1,ho,?_];have I':Inv X pins σ (upd H a (.frz o (.dK kvs))) { s with heap:=s.heap,toks:=s.toks }:=I.write (x:=a) (e:=a) (by rw[e];exact trivial) (.inl rfl) (fun _ _ _ q=>q) #[o,ho] #[ho,z,hd,vs,rel,o,es,ep,ho,hx];exact I'
theorem Inv.thaw(I:Inv X pins σ H s)(e:H a=some (.frz o (.dK kvs)))(th:∀q u,X.H₀ a≠some (.frz q u)):Inv X pins σ (upd H a (.dK kvs)) s:=by
 have ne:∀b,H b=none->b≠a:=fun b n z=>by rw[z,e]at n;cases n
 have nt:∀b xs,H b=some (.tup xs)->b≠a:=fun b xs n z=>by rw[z,e]at n;cases n
 have no:∀b y,H b=some (.own y)->b≠a:=fun b y n z=>by rw[z,e]at n;cases n
 show#[I.ok,I.os,I.bare,#[I.base.keep,I.base.slot,fun b ob q n hx=>?_,I.base.there,fun b xs q=>?_,fun b ob u q=>?_,fun b ps q=>?_],I.loc,I.cell,?_,fun x c q=>?_,fun p hp=>?_,fun b u q=>?_,I.len]
 ·have n':=I.base.free b ob q n hx;rwa[ao (ne b n')]
 ·have q':=I.base.tups b xs q;rwa[ao (nt b xs q')]
 ·have q':=I.base.JB b ob u q;rwa[ao (fun(z:b=a)=>th ob u (z ▸ q))]
 ·obtain⟨m,q'⟩:=I.base.QH b ps q;show#[m,by rwa[ao (fun z=>by rw[z,e]at q';cases q')]]
 ·rw[ao (ne _ I.free)];exact I.free
 ·have n:=I.xZ x c q;rwa[ao (ne _ n)]
 ·obtain⟨h1,n,r⟩:=I.pin p hp;show#[h1,by rwa[ao (ne _ n)],r]
 ·by_cases hb:b=a
  ·subst hb;rw[aj]at q;cases q;obtain⟨_,r⟩:=(show dD X.prog X.w H s.heap b (.frz o (.dK kvs))from I.hok b _ e);exact r
  ·rw[ao hb]at q;exact(I.hok b u q).stay (fun _ _ _ r=>r) (fun c r=>by rwa[ao (no c b r)]) fun c xs r=>by rwa[ao (nt c xs r)]
end
def Iti(a:Addr)(o:Obj)(kvs:List (Key × V)):It:=
 #[fun i H=>H a=some (.frz o (.dK kvs))/\i<kvs.length,fun i H x H'=>∃p t,kvs[i]? = some p/\H t=none/\x=.ref t/\H'=upd H t (.tup [kV p.1,p.2]),fun i H=>H a=some (.frz o (.dK kvs))/\kvs.length<=i]
theorem afY(hok:HOk P w H h)(e:H a=some (.frz o (.dK kvs)))(hd:o.data=.dict es ep):
  ∃vs,KV kvs vs/\h.DictAt (bU P w) a vs ep:=by
 obtain⟨ho,_,_,vs,rel,o',es',ep',ho',h2,h3,r⟩:=(show dD P w H h a (.frz o (.dK kvs))from hok a _ e);rw[ho]at ho';cases ho';rw[hd]at h3;cases h3;show#[vs,rel,o,_,ho,h2,hd,r]
theorem KV.at(r:KV kvs vs):∀{i:Nat}{p:Key × V},kvs[i]? = some p->∃v,vs[i]? = some (p.1,v)/\RelV p.2 v:=by
 unfold KV at r
 induction r with
 |nil=>intro i p e;simp at e
 | @cons a b as bs h t ih =>
  intro i p e;cases i with
  |zero =>
   have e':a=p:=by simpa using e
   subst e';show#[b.2,by rw[h.1];rfl,h.2]
  |succ j =>
   obtain⟨v,h1,h2⟩:=ih (i:=j) (p:=p) (by simpa using e);show#[v,by simpa using h1,h2]
theorem BR:vq table "dict_itemiterator.__iter__" = some cO.«dict_keyiterator.__iter__» :=
 Yk (id' := "dict_keyiterator.__iter__") (by kernel_rfl) rfl tb_g% (by kernel_rfl)
theorem yN{s:Shared}(hit:IsItemIter s.heap it d i n ep ok ov)(h:Q (.ref it) s):
  wpAny (model prog w) A (vB (.ref it)) Q E s:=by
 have hT:s.TypeIs (.ref it) "dict_itemiterator" := #[_,hit,rfl];refine aea hT F.slot_dict_itemiterator_iter (xW F.slot_dict_itemiterator_iter hT BR ?_ (F.args_dict_itemiterator_iter_1 _));show wpAny _ _ (ret (.ref it)) _ _ s;exact aF #[_,rfl,"dict_itemiterator",_,hT,F.slot_dict_itemiterator_next.lookup,h]
theorem afZ{P:aN}{w:World}{K:aH}{elts:List Expr}{x1}{tpos:Pos}(a it:Addr)(o:Obj)(kvs:List (Key × V)){es:Array aeu}{ep:Nat}(hd:o.data=.dict es ep):
  Turn P w K (.Tuple elts x1 tpos) (Iti a o kvs) [it] it (fun i h=>∃ok ov,IsItemIter h it a i kvs.length ep ok ov) where
 mem:=by simp
 obj:=fun i h st b hb=>by
  have e:b=it:=by simpa using hb
  subst e;obtain⟨ok,ov,e⟩:=st;show#[_,e,fun v z=>by cases z]
 keep:=fun i h h' st k=>by
  obtain⟨ok,ov,e⟩:=st;show#[ok,ov,k it (by simp) _ e]
 item:=by
  walk_at "b"
  subst hP hw hK;obtain⟨e,hi⟩:=hg;obtain⟨vs,rel,dm⟩:=afY I.hok e hd;have hl:=rel.length;obtain⟨p,hp⟩:∃p,kvs[i]? = some p:=#[kvs[i],by simp[hi]];obtain⟨v,hv,rv⟩:=rel.at hp
  k_dat it "d"
  obtain⟨ok,ov,st⟩:=st;refine wpAny_pyNext_items_item (knd:=bU X.prog X.w) (by rwa[<-hl]) dm hv fun key h' hkey heo ht hz hk=>?_;have hit:it< ~~~s:=aV st;have nt:H (~~~s)=none:=I.hok.fresh (aK _);have I1:Inv X pins σ (upd H (~~~s) (.tup [kV p.1,p.2])) { s with heap:=h' }:=I.anm (t':=s.toks) hk #[_,heo] f0 f1 f3 f4 f5 (aK _)
   #[tb_g%,[key,v],.cons (ahF hkey) (.cons rv .nil),#[_,ht,rfl,_,rfl]]
  have n1:(upd H (~~~s) (.tup [kV p.1,p.2])) it=none:=by rwa[ao (bJ hit)]
  show#[.ref (~~~s),rfl,wpAny_letOwnedTupleGo_items heo fun h2 he2 hs2=>?_];show#[.ref (~~~s),_,I1.turned (t':=s.toks) (fun b ob hb q=>(hs2.2 b hb).trans q) n1 f1 f3 f4 f5,rfl,#[p,_,hp,nt,rfl,rfl],#[key,v,by rwa[<-hl]at he2],fun b hb=>?_];have eb:b=it:=by simpa using hb
  subst eb;exact n1
 done:=by
  walk_at "b"
  subst hP hw hK;obtain⟨e,hi⟩:=hg;obtain⟨vs,rel,dm⟩:=afY I.hok e hd;have hl:=rel.length
  k_dat it "d"
  obtain⟨ok,ov,st⟩:=st;exact wpAny_pyNext_items_end (knd:=bU X.prog X.w) (I.ok.hd hc) (by rwa[<-hl]) dm (by rw[adS];lia) fun h' eb=>#[rfl,I.turned (t':=s.toks) (fun b o hb e=>eb b o hb e) f0 f1 f3 f4 f5]
 self:=fun A i s Q E st h=>by
  obtain⟨ok,ov,e⟩:=st;exact yN e h
section
variable{X:Cx}{tg:Expr}
abbrev Warm(X:Cx)(a:Addr):Prop:=∀q u,X.H₀ a≠some (.frz q u)
theorem Inv.warm{pins:List (Addr × Obj)}{σ:St}{H:Hp}{s:Shared}{a:Addr}{kvs:List (Key × V)}(I:Inv X pins σ H s)(e:H a=some (.dK kvs)):Warm X a:=fun q u z=>by
 have:=I.base.JB a q u z;rw[e]at this;cases this
def ano(X:Cx)(td:TE):TI:=fun σ H R=>td σ H fun x H1=>∃a kvs,x=.ref a/\H1 a=some (.dK kvs)/\∀o,Warm X a->R (Iti a o kvs) (upd H1 a (.frz o (.dK kvs)))
structure MI(X:Cx)(o:Expr)(m:Str)(apos cpos:Pos):Prop where
 base:yW o m X.env (eval o X.env)=eval o X.env
 line:(apos.endLine == cpos.line)=true
theorem anp{x1}(hl:PE X l td)(m:MI X l "items" apos cpos):PI X (.Tuple elts x1 tpos) (.Call (.Attribute l "items" apos) [] [] cpos) (ano X td):=by
 k_dat (R,h) "g"
 refine ad9 (T := "dict") (id := "dict.items") m.base rfl m.line afg amd PySem.F.type_dict_items (thn (hl pins s σ H _ I h) fun v s1 zq=>?_)
 walk_at "s"
 obtain ⟨a,kvs,rfl,e,q⟩:=q1;obtain rfl:v=Value.ref a:=r1;obtain ⟨t1,t2,hS⟩:=afV I1 (.inl #[kvs,.inl e]);show#[t1,t2,?_];obtain ⟨o,es,ep,hd,ho,If⟩:=I1.freeze e;obtain ⟨vs,rel,dm⟩:=afY If.hok aj hd;have hl':=rel.length;refine akP amd PySem.F.entry_dict_items rfl (akF #[rfl,t1,PySem.F.args_dict_items_1 _,_,meets_dict_items (bU X.prog X.w) a hS,#[vs,dm.dictOf],?_]);refine wpAny_pyIter_items (knd:=bU X.prog X.w) (d:=a) #[_,cJ _ rfl,rfl,rfl] (dm.push _) ?_;have I2:=If.kept (h':=s1.heap.push { cls:=.type "dict_items",data:=.fields [.ref a].toArray }) (t':=s1.toks) fun b ob e=>cH _ e;show#[(s1.heap.push { cls:=.type "dict_items",data:=.fields [.ref a].toArray }).objs.size,[(s1.heap.push { cls:=.type "dict_items",data:=.fields [.ref a].toArray }).objs.size],_,_,_,rfl,I2.kept (t':=s1.toks) fun b ob e=>cH _ e,afZ a _ o kvs hd,
  #[.none,.none,by rw [hl'];exact cJ _ rfl],fun b hb=>?_,q o (I1.warm e)]
 have eb:b=(s1.heap.push { cls:=.type "dict_items",data:=.fields [.ref a].toArray }).objs.size:=by simpa using hb
 subst eb;exact I2.afH (aK _) (I2.hok.fresh (aK _))
def anq(X:Cx)(D:Ends):Ends where
 nx:=fun σ H=>∃a kvs o,Warm X a/\H a=some (.frz o (.dK kvs))/\D.nx σ (upd H a (.dK kvs))
 rt:=fun v H=>∃a kvs o,Warm X a/\H a=some (.frz o (.dK kvs))/\D.rt v (upd H a (.dK kvs))
theorem aqd(h:SP X pins (anq X D) f s'):SP X pins D f s':=by
 cases f with
 |next =>
  obtain⟨σ',H',I,a,kvs,o,w,e,q⟩:=h;show#[σ',_,I.thaw e w,q]
 |brk =>
  obtain⟨σ',H',I,q⟩:=h;exact q.elim
 |cont =>
  obtain⟨σ',H',I,q⟩:=h;exact q.elim
 |ret u =>
  obtain⟨v,σ',H',I,r,a,kvs,o,w,e,q⟩:=h;show#[v,σ',_,I.thaw e w,r,q]
def tForI(X:Cx)(td:TE)(g:TG)(tb:TS):TS:=fun D σ H=>tFor (ano X td) g tb (anq X D) σ H
theorem ahG{x1}(hp:aer (model X.prog X.w) X.A X.env X.xe)(hc:X.calm=true)(hl:PE X l td)(m:MI X l "items" apos cpos)
  (hg:PG X (.Tuple elts x1 tpos) g) (hb:PSs X body tb)
  (hs:∀x,CV (.Call (.Attribute l "items" apos) [] [] cpos) X.env x=pure x:=by intro _;rfl):PS X (.For (.Tuple elts x1 tpos) (.Call (.Attribute l "items" apos) [] [] cpos) body [] pos) (tForI X td g tb):=
 fun pins s σ H D I h=>thn (am0 hp hc (anp hl m) hg hb hs pins s σ H (anq X D) I h) fun _ _ q=>aqd q
theorem Wq{a:Addr}{o:Obj}{kvs:List (Key × V)}{g:TG}{tb:TS}{D:Ends}{σ:St}{H:Hp}(Pv:Nat->St->Hp->Prop)(h0:Pv 0 σ H)(hl:∀i σ H,Pv i σ H->H a=some (.frz o (.dK kvs)))
  (hs:∀i p t σ H,kvs[i]? = some p->Pv i σ H->H t=none->g (.ref t) σ (upd H t (.tup [kV p.1,p.2])) fun σ2 H2=>tb { D with nx:=Pv (i+1),ct:=Pv (i+1),bk:=D.nx } σ2 H2) (hd:∀σ H,Pv kvs.length σ H->D.nx σ H):
  ∃W:Nat->Nat->St->Hp->Prop,(∃m,W 0 m σ H)/\∀i m σ H,W i m σ H ->
   ((Iti a o kvs).stop i H/\D.nx σ H)\/((Iti a o kvs).go i H/\∃N:St->Hp->Prop,(∀σ' H',N σ' H'->∃m',m'<m/\W (i+1) m' σ' H')/\∀x H',(Iti a o kvs).yld i H x H'->g x σ H' fun σ2 H2=>tb { D with nx:=N,ct:=N,bk:=D.nx } σ2 H2):=by
 show#[fun i m σ H=>m=kvs.length-i/\i<=kvs.length/\Pv i σ H,#[kvs.length,by simp,cg _,h0],?_];rintro i m σ H ⟨rfl,hi,p⟩;have q:=hl i σ H p;by_cases hlt:i<kvs.length
 ·refine .inr #[#[q,hlt],Pv (i+1),fun σ' H' p'=>#[kvs.length-(i+1),by lia,rfl,hlt,p'],fun x H' y=>?_];obtain⟨pr,t,hp,ht,ex,e⟩:=y;subst e ex;exact hs i pr t σ H hp p ht
 ·have e:i=kvs.length:=by lia
  subst e;exact .inl #[#[q,aK _],hd σ H p]
end
section
variable{X:Cx}{l:Expr}{p kp cpos apos pos:Pos}
def aqe(td:TE):TE:=fun σ H Q=>td σ H fun x H1=>∃a kvs ns,x=.ref a/\Rd H1 a (.dK kvs)/\kvs.map (·.2)=ns.map V.int/\ns.length<64 /\
 ∀(l:Addr)(ns':List Int),H1 l=none->ns'.Perm ns->ns'.Pairwise (· >= ·)->Q (.ref l) (upd H1 l (.lst (ns'.map V.int)))
theorem Q0{A:aU}{s:Shared}
  (K:alb X.prog X.w T r d n P OK) (hh:A.handled=none) (hok:OK s.heap) (hn:n<=sizeLine) (h64:n<64) (hP:∀us:List Value,us.length=n->(∀j v,us[j]? = some v->P j v)->IntsAre us ns)
  (h:∀h' tk l out ns' e,(∀ b ob,s⁻¹ b=some ob->h'.get? b=some ob)->(∀ b ob,s⁻¹ b=some ob->b≠l)->h'.get? l=some (cX "list" out e) ->
   IntsAre out.toList ns'->ns'.Perm ns->Ordered bb ns'->Q (.ref l) { s with heap:=h',toks:=tk }) :
  wpAny (model X.prog X.w) A (call (.builtin "sorted") [.ref r] [(aW "reverse",.bool bb)]) Q E s:=by
 refine call_function_entry_kw Zj Zh Zi (args_sorted_rev _ _) ?_;unfold cO.«sorted»;refine aA (m:=Ys "sorted" 1 1 _) (aF ?_);refine aA (ak4 (A:=A.in1) K hh hok hn fun h1 tk acc hk hacc=>?_);have hl:acc.toList.length=n:=by rw[qZ];exact hacc.1
 have hI:=hP acc.toList hl fun j v e=>hacc.2 j v (by rwa[<-pR]);refine aA (Pk ?_ (by rwa[hl]));have hoL:(h1.push (cX "list" acc.toList.toArray 0)).get? h1.objs.size=some (cX "list" acc.toList.toArray 0):=cJ _ rfl;refine aA (jD (wpAny_call_entry_kw Zd #[_,hoL,rfl] Zc (list_sort_tree_rev hoL hI (by rwa[hl]) fun out ns' a1 a2 a3=>#[_,rfl,?_]) (args_list_sort_rev _ _)));refine aF #[_,rfl,?_];obtain⟨e,he⟩:=ae3 (vs:=acc.toList) (out:=out) hoL;have hb:∀b ob,s⁻¹ b=some ob->b<h1.objs.size:=fun b ob e'=>aV (hk b ob e');refine h _ tk _ out ns' e (fun b ob e'=>?_) (fun b ob e'=>bJ (hb b ob e')) he a1 a2 a3;have hlt:=hb b ob e';rw[ae1 (bJ hlt) (by rw[Qn];exact zx hlt)];exact cH _ (hk b ob e')
theorem aiV(hm0:X.mg "sorted" = none)(hl:PE X l td)(m:MI X l "values" apos cpos)(hc:X.calm=true)(hg:Gl X "sorted" := by rfl):
  PE X (.Call (.Name "sorted" p) [.Call (.Attribute l "values" apos) [] [] cpos] [#[some "reverse",.Constant (.bool true) j bpos,kp]] pos) (aqe td):=by
 k_dat (Q,h) "g"
 refine vm (jW I hg hm0 boot_sorted ?_);refine callWith_kw (vI (ad9 (T := "dict") (id := "dict.values") m.base rfl m.line afg amb PySem.F.type_dict_values (thn (hl pins s σ H _ I h) fun v s1 zq=>?_)))
 walk_at "s"
 obtain⟨a,kvs,ns,rfl,e,ei,h64,q⟩:=q1;obtain rfl:v=Value.ref a:=r1;obtain⟨t1,t2,hS⟩:=afV I1 (.inl #[kvs,e]);show#[t1,t2,?_];obtain⟨z,_,vs,rel,dd⟩:=zW I1.hok e;obtain⟨ep,dm⟩:=dd.dictAt;have hlen:=rel.length;have hns:ns.length=kvs.length:=by have:=mN fX ei;simpa using this.symm
 refine akP amb PySem.F.entry_dict_values rfl (akF #[rfl,t1,PySem.F.args_dict_values_1 _,_,meets_dict_values (bU X.prog X.w) a hS,#[vs,dd],?_]);refine zJ (kws_cons ?_);refine al3 (kws_nil ?_);show wpAny _ _ (call (.builtin "sorted") [.ref (~~~s1)] [(aW "reverse",.bool true)]) _ _ _;have I2:=I1.kept (h':=s1.heap.push { cls:=.type "dict_values",data:=.fields [.ref a].toArray }) (t':=s1.toks) fun b ob e=>cH _ e;refine Q0 (X:=X) (ns:=ns) (bb:=true) (PySem.W.kdl_values (knd:=bU X.prog X.w) (kvs:=vs) (ep:=ep)) (I1.ok.hd hc) #[#[_,cJ _ rfl,rfl,rfl],dm.push _] (by rwa[<-hlen]) tb_g% (fun us hu hv=>?_) fun h' tk l' out ns' e' kp hne hl' hI hp ho=>?_
 ·have vv:=Wm rel hu hv;rw[ei]at vv;exact intsAre_of vv
 ·show#[.ref l',_,I2.QZ (t':=tk) kp hne (show dD X.prog X.w _ h' l' (.lst (ns'.map V.int))from#[?_,out.toList,e',pD hI,by simpa using hl']),rfl,q l' ns' (I2.none_of hne) hp ho];rwa[aD,hp.length_eq,hns]
end
end L2
namespace MG
abbrev Tab:=List (Int × Int)
def look(c:Tab)(k:Int):Option Int:=(c.find? fun p=>decide (p.1=k)).map (·.2)
def low(c:Tab)(k:Int):Int:=(look c k).getD 0
def put(c:Tab)(k v:Int):Tab:=
 if(c.any fun p=>decide (p.1=k))=true then c.map (fun p=>if p.1=k then(p.1,v)else p)else c++[(k,v)]
def keys(c:Tab):List Int:=c.map (·.1)
def vals(c:Tab):List Int:=c.map (·.2)
def cN(c:Tab)(cut:Int):Tab:=(c.filter fun p=>decide (cut<p.2)).map fun p=>(p.1,p.2-cut)
theorem anr(k:Int):look [] k=none:=rfl
theorem gQ(p:Int × Int)(r:Tab)(k:Int):look (p::r) k=if p.1=k then some p.2 else look r k:=by
 unfold look;rw[CG];by_cases h:p.1=k
 ·rw[mI h];simp[h]
 ·rw[mB h];simp[h]
theorem Ol(k:Int):low [] k=0:=rfl
theorem zX(p:Int × Int)(r:Tab)(k:Int):low (p::r) k=if p.1=k then p.2 else low r k:=by
 unfold low;rw[gQ];by_cases h:p.1=k
 ·rw[mI h,mI h];rfl
 ·rw[mB h,mB h]
theorem ahH(c:Tab)(k:Int):(c.any fun p=>decide (p.1=k))=true↔k∈keys c:=by
 unfold keys;rw[List.any_eq_true];constructor
 ·rintro⟨p,h1,h2⟩;exact dH.mpr #[p,h1,mS h2]
 ·intro h;obtain⟨p,h1,h2⟩:=dH.mp h;show#[p,h1,mP h2]
theorem tL(c:Tab)(k:Int):look c k=none↔k∉keys c:=by
 induction c with
 |nil=>simp[anr,keys]
 |cons p r ih =>
  rw[gQ];by_cases h:p.1=k
  ·rw[mI h];simp[keys,h]
  ·rw[mB h,ih];simp[keys];intro _ e;exact h e.symm
theorem Mi(c:Tab)(k:Int):(look c k).isSome=true↔k∈keys c:=by
 have h:=tL c k;cases e:look c k with
 |none=>rw[e]at h;simp at h;simp[h]
 |some v=>rw[e]at h;simp at h;simp[h]
theorem iJ(h:k∉keys c):low c k=0:=by
 unfold low;rw[(tL c k).mpr h];rfl
theorem ant(h:look c k=some v):(k,v)∈c:=by
 induction c with
 |nil=>cases h
 |cons p r ih =>
  rw[gQ]at h;by_cases e:p.1=k
  ·rw[mI e]at h;cases h;rw[<-e];exact bY
  ·rw[mB e]at h;exact cF _ (ih h)
theorem mR(hn:(keys c).Nodup)(h:p∈c):look c p.1=some p.2:=by
 induction c with
 |nil=>cases h
 |cons q r ih =>
  rw[gQ];have hn':(q.1::keys r).Nodup:=hn;rw[iu]at hn';rcases aP.mp h with e|e
  ·subst e;rw[mI rfl]
  ·have:p.1∈keys r:=dH.mpr #[p,e,rfl];rw[mB (fun(z:q.1=p.1)=>hn'.1 (z ▸ this))];exact ih hn'.2 e
theorem iK(hn:(keys c).Nodup)(h:p∈c):low c p.1=p.2:=by
 unfold low;rw[mR hn h];rfl
theorem wu(h:∀p∈c,1<=p.2)(k:Int):0<=low c k:=by
 unfold low;cases e:look c k with
 |none=>exact cC 0
 |some v=>have:=h _ (ant e);simp at this ⊢; lia
theorem aiW(c:Tab)(k v:Int):keys (c.map fun p=>if p.1=k then(p.1,v)else p)=keys c:=by
 unfold keys;rw[dB];apply xU;intro p _;show(if p.1=k then(p.1,v)else p).1=p.1;split <;> rfl
theorem Z8(h:k∈keys c):put c k v=c.map fun p=>if p.1=k then(p.1,v)else p:=by
 unfold put;rw[mI ((ahH c k).mpr h)]
theorem Gg(h:k∉keys c):put c k v=c++[(k,v)]:=by
 unfold put;rw[mB (fun z=>h ((ahH c k).mp z))]
theorem abZ(c:Tab)(k v:Int):keys (put c k v)=if k∈keys c then keys c else keys c++[k]:=by
 by_cases h:k∈keys c
 ·rw[mI h,Z8 h,aiW]
 ·rw[mB h,Gg h];simp[keys]
theorem Gh(c:Tab)(k v j:Int):j∈keys (put c k v)↔j=k\/j∈keys c:=by
 rw[abZ];by_cases h:k∈keys c
 ·rw[mI h];show#[Or.inr,fun z=>z.elim (fun e=>e ▸ h) id]
 ·rw[mB h,bH,bO];show#[fun z=>z.elim Or.inr Or.inl,fun z=>z.elim Or.inr Or.inl]
theorem Z9(hn:(keys c).Nodup)(k v:Int):(keys (put c k v)).Nodup:=by
 rw[abZ];by_cases h:k∈keys c
 ·rwa[mI h]
 ·rw[mB h,Ii];show#[hn,by simp,?_];intro a ha b hb e;rw[bO]at hb;exact h (by rwa[<-hb,<-e])
theorem aac(c:Tab)(k v:Int):(put c k v).length<=c.length+1:=by
 unfold put;split
 ·rw[aD];lia
 ·rw[cu];simp
theorem aiX(c:Tab)(k v j:Int):look (c.map fun p=>if p.1=k then(p.1,v)else p) j=(look c j).map fun x=>if j=k then v else x:=by
 induction c with
 |nil=>rfl
 |cons p r ih =>
  rw[cR,gQ,gQ,ih];by_cases h:p.1=k
  ·rw[mI h];by_cases e:p.1=j
   ·rw[mI e,mI e,aeV,mI (e.symm.trans h)]
   ·rw[mB e,mB e]
  ·rw[mB h];by_cases e:p.1=j
   ·rw[mI e,mI e,aeV,mB (fun z=>h (e.trans z))]
   ·rw[mB e,mB e]
theorem aiY(c:Tab)(k v j:Int)(h:k∉keys c):look (c++[(k,v)]) j=if j=k then some v else look c j:=by
 induction c with
 |nil =>
  rw[O8,gQ];by_cases e:k=j
  ·rw[mI e,mI e.symm]
  ·rw[mB e,mB (fun z=>e z.symm)]
 |cons p r ih =>
  have hk:¬ p.1=k:=fun z=>h (by simp[keys,z]);have hr:k∉keys r:=fun z=>h (cF _ z);rw[O6,gQ,gQ,ih hr];by_cases e:p.1=j
  ·rw[mI e,mI e,mB (fun z=>hk (e.trans z))]
  ·rw[mB e,mB e]
theorem anu(c:Tab)(k v j:Int):look (put c k v) j=if j=k then some v else look c j:=by
 by_cases h:k∈keys c
 ·rw[Z8 h,aiX];by_cases e:j=k
  ·subst e;cases q:look c j with
   |none=>exact mM h ((tL c j).mp q)
   |some x=>simp
  ·simp only[mB e];cases look c j <;> rfl
 ·rw[Gg h,aiY c k v j h]
theorem aad(c:Tab)(k v j:Int):low (put c k v) j=if j=k then v else low c j:=by
 unfold low;rw[anu];split <;> rfl
theorem aae(h:∀p∈c,1<=p.2)(hv:1<=v):∀p∈put c k v,1<=p.2:=by
 intro p hp;unfold put at hp;split at hp
 ·obtain⟨q,hq,e⟩:=dH.mp hp;by_cases z:q.1=k
  ·rw[mI z]at e;subst e;exact hv
  ·rw[mB z]at e;subst e;exact h q hq
 ·rcases bH.mp hp with z|z
  ·exact h p z
  ·rw[bO]at z;subst z;exact hv
theorem anv(hn:(keys c).Nodup)(h:k∈keys c):(vals (c.map fun p=>if p.1=k then(p.1,v)else p)).sum=(vals c).sum-low c k+v:=by
 induction c with
 |nil=>cases h
 |cons p r ih =>
  have hn':(p.1::keys r).Nodup:=hn;rw[iu]at hn';rw[zX];by_cases e:p.1=k
  ·have hr:k∉keys r:=e ▸ hn'.1;have id_r:(r.map fun p=>if p.1=k then(p.1,v)else p)=r:=by
    have:∀q∈r,(if q.1=k then(q.1,v)else q)=q:=fun q hq=>mB (fun(z:q.1=k)=>hr (z ▸ dH.mpr #[q,hq,rfl]));exact(xU this).trans (akx r)
   rw[cR,mI e,mI e,id_r];simp only[vals,cR,gH];lia
  ·have hr:k∈keys r:=by
    rcases aP.mp h with z|z
    ·exact mM z.symm e
    ·exact z
   rw[cR,mB e,mB e];have:=ih hn'.2 hr;simp only[vals,cR,gH]at this ⊢; lia
theorem ahI(hn:(keys c).Nodup)(k w:Int):(vals (put c k (low c k+w))).sum=(vals c).sum+w:=by
 by_cases h:k∈keys c
 ·rw[Z8 h,anv hn h];lia
 ·rw[Gg h,iJ h];simp only[vals,aR,cR,Ik,X7,gH,aky];lia
theorem wz{cut k:Int}(h:k∈keys (cN c cut)):k∈keys c:=by
 unfold keys cN at h;rw[dB]at h;obtain⟨p,hp,e⟩:=dH.mp h;exact dH.mpr #[p,(pG.mp hp).1,e]
theorem anw(c:Tab)(cut:Int):keys (cN c cut)=keys (c.filter fun p=>decide (cut<p.2)):=by
 unfold keys cN;rw[dB];rfl
theorem anx(hn:(keys c).Nodup)(cut:Int):(keys (cN c cut)).Nodup:=by
 rw[anw];exact amt (amy _ List.filter_sublist) hn
theorem aqf(c:Tab)(cut:Int):∀p∈cN c cut,1<=p.2:=by
 intro p hp;unfold cN at hp;obtain⟨q,hq,e⟩:=dH.mp hp;have:=mS (pG.mp hq).2;subst e;show 1<=q.2-cut;lia
theorem aqg(c:Tab)(cut:Int):(cN c cut).length<=c.length:=by
 unfold cN;rw[aD];exact xR _ _
theorem anz(h:∀p∈c,1<=p.2):cN c 0=c:=by
 unfold cN;rw[aki.mpr (fun p hp=>mP (by have:=h p hp;lia))];have:∀p∈c,(p.1,p.2-0)=p:=fun p _=>by rw[Int.sub_zero]
 exact(xU this).trans (akx c)
theorem ahJ(hn:(keys c).Nodup){cut:Int}(hc:0<=cut)(hp:∀p∈c,0<=p.2)(k:Int):low (cN c cut) k=if low c k-cut<=0 then 0 else low c k-cut:=by
 induction c with
 |nil=>rw[show cN [] cut=[]from rfl,Ol];split <;> lia
 |cons p r ih =>
  have hn':(p.1::keys r).Nodup:=hn;rw[iu]at hn';have ih':=ih hn'.2 (fun q hq=>hp q (cF _ hq));by_cases h:cut<p.2
  ·have e:cN (p::r) cut=(p.1,p.2-cut)::cN r cut:=by
    unfold cN;rw[rO,mI (mP h)];rfl
   rw[e,zX,zX,ih'];by_cases z:p.1=k
   ·rw[mI z,mI z,mB tb_g%]
   ·rw[mB z,mB z]
  ·have e:cN (p::r) cut=cN r cut:=by
    unfold cN;rw[rO,mB (by simp;lia)]
   rw[e,zX,ih'];by_cases z:p.1=k
   ·rw[mI z,mI (show p.2-cut<=0 by lia)];have:low r k=0:=iJ (z ▸ hn'.1);rw[this];split <;> lia
   ·rw[mB z]
theorem yh:∀{d:List Int}{room:Nat}{c:Int},d.Pairwise (· >= ·)->d[room]? = some c->(d.filter fun v=>decide (c<v)).length<=room
 |[],_,_,_,h=>by cases h
 |x::r,0,c,hp,h=>by
  have e:x=c:=by simpa using h
  subst e;have:((x::r).filter fun v=>decide (x<v))=[]:=by
   rw[O2];intro v hv;rcases aP.mp hv with z|z
   ·subst z;simp
   ·have:=(fW.mp hp).1 v z;simp;lia
  rw[this];exact aK _
 |x::r,n+1,c,hp,h=>by
  have ih:=yh (d:=r) (room:=n) (c:=c) (fW.mp hp).2 (by simpa using h);rw[rO];split
  ·simp only[cD];lia
  ·lia
def above(c:Int)(l:List Int):Int:=((l.filter fun v=>decide (c<v)).map fun v=>v-c).sum
theorem Eb(c x:Int)(r:List Int):above c (x::r)=(if c<x then x-c else 0)+above c r:=by
 unfold above;rw[rO];by_cases h:c<x
 ·rw[mI (mP h),mI h];rfl
 ·rw[mB (by simp;lia),mB h];lia
theorem Wr:∀{l:List Int},(∀v∈l,v<=c)->above c l=0
 |[],_=>rfl
 |x::r,h=>by
  rw[Eb,Wr (l:=r) fun v hv=>h v (cF _ hv)];have:=h x bY;rw[mB tb_g%];rfl
theorem wA:∀{l:List Int},(∀v∈l,0<=v)->0<=l.sum
 |[],_=>cC 0
 |x::r,h=>by
  have:=wA (l:=r) fun v hv=>h v (cF _ hv);have:=h x bY;rw[gH];lia
theorem Q5:∀{d:List Int}{room:Nat}{c:Int},d.Pairwise (· >= ·)->d[room]? = some c->(∀v∈d,0<=v) ->
  above c d+((room:Int)+1)*c<=d.sum/\(d.length=room+1->above c d+((room:Int)+1)*c=d.sum)
 |[],_,_,_,h,_=>by cases h
 |x::r,0,c,hp,h,h0=>by
  have e:x=c:=by simpa using h
  subst e;have hr:∀v∈r,v<=x:=fun v hv=>(fW.mp hp).1 v hv;have hs:=wA (l:=r) fun v hv=>h0 v (cF _ hv);rw[Eb,mB tb_g%,Wr hr,gH];show#[by simp;lia,fun hl=>?_];have:r=[]:=by
   have:r.length=0:=by simpa using hl
   exact BX.mp this
  subst this;simp
 |x::r,n+1,c,hp,h,h0=>by
  have h':r[n]? = some c:=by simpa using h
  have ih:=Q5 (d:=r) (room:=n) (c:=c) (fW.mp hp).2 h' fun v hv=>h0 v (cF _ hv);have hx:c<=x:=(fW.mp hp).1 c (mv h');have hm:((n+1:Nat):Int)=(n:Int)+1:=by lia
  have e2:((((n+1:Nat):Int))+1)*c=((n:Int)+1)*c+c:=by rw[hm,Du ((n:Int)+1) 1 c,aeO]
  rw[Eb,gH,e2];have ex:(if c<x then x-c else 0)=x-c:=by split <;> lia
  rw[ex];show#[by have:=ih.1;lia,fun hl=>?_];have:=ih.2 (by simpa using hl);lia
theorem ab0(c:Tab)(cut:Int):vals (cN c cut)=(((vals c).filter fun v=>decide (cut<v)).map fun v=>v-cut):=by
 induction c with
 |nil=>rfl
 |cons p r ih =>
  have hv:vals (p::r)=p.2::vals r:=rfl;rw[hv];by_cases h:cut<p.2
  ·have e:cN (p::r) cut=(p.1,p.2-cut)::cN r cut:=by
    unfold cN;rw[rO,mI (mP h)];rfl
   rw[e,rO,mI (mP h),cR,<-ih];rfl
  ·have e:cN (p::r) cut=cN r cut:=by
    unfold cN;rw[rO,mB (by simp;lia)]
   rw[e,rO,mB (by simp;lia),ih]
theorem aqh(c:Tab)(cut:Int):(vals (cN c cut)).sum=above cut (vals c):=by rw[ab0];rfl
theorem Gi{l l':List Int}(h:l.Perm l'):l.sum=l'.sum:=by
 induction h with
 |nil=>rfl
 |cons x _ ih=>rw[gH,gH,ih]
 |swap x y l=>simp only[gH];lia
 |trans _ _ a b=>exact a.trans b
theorem af0{l l':List Int}(h:l.Perm l'):above c l=above c l':=by
 unfold above;exact Gi ((h.filter _).map _)
structure IsCut(room:Nat)(c:Tab)(cut:Int):Prop where
 ex:∃d:List Int,d.Perm (vals c)/\d.Pairwise (· >= ·)/\d[room]? = some cut
theorem IsCut.mem{cut:Int}(h:IsCut room c cut):cut∈vals c:=by
 obtain⟨d,h1,_,h3⟩:=h;exact h1.mem_iff.mp (mv h3)
theorem IsCut.len{cut:Int}(h:IsCut room c cut):(cN c cut).length<=room:=by
 obtain⟨d,h1,h2,h3⟩:=h;have e:(cN c cut).length=((vals c).filter fun v=>decide (cut<v)).length:=by
  have:=mN fX (ab0 c cut);rw[aD]at this;rw[<-this];unfold vals;rw[aD]
 rw[e,<-(h1.filter _).length_eq];exact yh h2 h3
theorem IsCut.sum{cut:Int}(h:IsCut room c cut)(h0:∀p∈c,0<=p.2):
  (vals (cN c cut)).sum+((room:Int)+1)*cut<=(vals c).sum/\(c.length=room+1->(vals (cN c cut)).sum+((room:Int)+1)*cut=(vals c).sum):=by
 obtain⟨d,h1,h2,h3⟩:=h;rw[aqh,<-af0 h1,<-Gi h1];have hd:∀v∈d,0<=v:=fun v hv=>by
  obtain⟨p,hp,e⟩:=dH.mp (h1.mem_iff.mp hv);rw[<-e];exact h0 p hp
 have:=Q5 h2 h3 hd;show#[this.1,fun hl=>this.2 ?_];rw[h1.length_eq];unfold vals;rwa[aD]
theorem aaf:∀{l l':List Int},l.Perm l'->l.Pairwise (· >= ·)->l'.Pairwise (· >= ·)->l=l':=by
 intro l
 induction l with
 |nil=>intro l' h _ _;exact h.nil_eq
 |cons x r ih =>
  intro l' h hp hp';cases l' with
  |nil=>exact mM h.symm (by simp)
  |cons y r' =>
   have hx:x∈y::r':=h.mem_iff.mp bY;have hy:y∈x::r:=h.mem_iff.mpr bY;have e:x=y:=by
    rcases aP.mp hx with z|z
    ·exact z
    ·rcases aP.mp hy with z'|z'
     ·exact z'.symm
     ·have a:=(fW.mp hp').1 x z;have b:=(fW.mp hp).1 y z';lia
   subst e;rw[ih h.cons_inv (fW.mp hp).2 (fW.mp hp').2]
theorem IsCut.uniq(hx:IsCut room c x)(hy:IsCut room c y):x=y:=by
 obtain⟨d,h1,h2,h3⟩:=hx;obtain⟨d',h1',h2',h3'⟩:=hy;have e:=aaf (h1.trans h1'.symm) h2 h2';subst e;rw[h3]at h3';exact bC h3'
def eF(room:Nat)(c:Tab)(c':Tab)(cut:Int):Prop:=
 if c.length<=room then cut=0/\c'=c else IsCut room c cut/\c'=cN c cut
theorem eF.uniq(h:eF room c a x)(h':eF room c b y):a=b/\x=y:=by
 unfold eF at h h';by_cases e:c.length<=room
 ·rw[mI e]at h h';show#[h.2.trans h'.2.symm,h.1.trans h'.1.symm]
 ·rw[mB e]at h h';have z:=h.1.uniq h'.1;subst z;show#[h.2.trans h'.2.symm,rfl]
structure Ok(room:Nat)(c:Tab)(total lost:Int)(tw:Int->Int):Prop where
 nd:(keys c).Nodup
 pos:∀p∈c,1<=p.2
 len:c.length<=room
 l0:0<=lost
 sum:(vals c).sum+((room:Int)+1)*lost<=total
 lo:∀k,low c k<=tw k
 hi:∀k,tw k<=low c k+lost
structure Pre(room:Nat)(c:Tab)(total lost:Int)(tw:Int->Int):Prop where
 nd:(keys c).Nodup
 pos:∀p∈c,1<=p.2
 l0:0<=lost
 sum:(vals c).sum+((room:Int)+1)*lost<=total
 lo:∀k,low c k<=tw k
 hi:∀k,tw k<=low c k+lost
theorem eF.nn{cut:Int}(f:eF room c c' cut)(hp:∀p∈c,1<=p.2):0<=cut:=by
 unfold eF at f;by_cases e:c.length<=room
 ·rw[mI e]at f;lia
 ·rw[mB e]at f;obtain⟨p,hp',e'⟩:=dH.mp f.1.mem;have:=hp p hp';lia
theorem Pre.fit{total lost cut:Int}{tw:Int->Int}(h:Pre room c total lost tw)(f:eF room c c' cut):Ok room c' total (lost+cut) tw:=by
 have hc:=f.nn h.pos;unfold eF at f;by_cases e:c.length<=room
 ·rw[mI e]at f;obtain⟨rfl,rfl⟩:=f;show#[h.nd,h.pos,e,by have:=h.l0;lia,by rw[alD];exact h.sum,h.lo,fun k=>by have:=h.hi k;lia]
 ·rw[mB e]at f
  k_dat (f,f) "y"
  have hs:=(f.sum fun p hp=>by have:=h.pos p hp;lia).1;have h0:∀p∈c,0<=p.2:=fun p hp=>by have:=h.pos p hp;lia
  show#[anx h.nd _,aqf _ _,f.len,by have:=h.l0;lia,?_,fun k=>?_,fun k=>?_]
  ·rw[Y4];have:=h.sum;lia
  ·rw[ahJ h.nd hc h0 k];have:=h.lo k;have:=wu h.pos k;split <;> lia
  ·rw[ahJ h.nd hc h0 k];have:=h.hi k;split <;> lia
theorem Ok.pre{tw:Int->Int}(h:Ok room c total lost tw):Pre room c total lost tw:=#[h.nd,h.pos,h.l0,h.sum,h.lo,h.hi]
theorem Ok.add{tw:Int->Int}(h:Ok room c total lost tw)(hw:1<=w):
  Pre room (put c k (low c k+w)) (total+w) lost (fun j=>if j=k then tw j+w else tw j):=by
 show#[Z9 h.nd _ _,aae h.pos (by have:=wu h.pos k;lia),h.l0,by rw[ahI h.nd];have:=h.sum;lia,fun j=>?_,fun j=>?_]
 ·rw[aad];have:=h.lo j;by_cases e:j=k
  ·subst e;rw[mI rfl,mI rfl];lia
  ·rwa[mB e,mB e]
 ·rw[aad];have:=h.hi j;by_cases e:j=k
  ·subst e;rw[mI rfl,mI rfl];lia
  ·rwa[mB e,mB e]
def kY(c d:Tab):Tab:=d.foldl (fun acc p=>put acc p.1 (low acc p.1+p.2)) c
theorem Gj(c:Tab):kY c []=c:=rfl
theorem pF(c:Tab)(p:Int × Int)(d:Tab):kY c (p::d)=kY (put c p.1 (low c p.1+p.2)) d:=rfl
theorem aiZ(c d:Tab)(p:Int × Int):kY c (d++[p])=put (kY c d) p.1 (low (kY c d) p.1+p.2):=by
 unfold kY;rw[XS];rfl
theorem Bh:∀(d:Tab){c:Tab},(keys c).Nodup->(keys (kY c d)).Nodup
 |[],_,h=>h
 |p::d,c,h=>by rw[pF];exact Bh d (Z9 h _ _)
theorem Q6:∀(d:Tab){c:Tab},(∀p∈c,1<=p.2)->(∀p∈d,1<=p.2)->∀p∈kY c d,1<=p.2
 |[],_,h,_=>h
 |q::d,c,h,hd=>by
  rw[pF];refine Q6 d (aae h ?_) fun p hp=>hd p (cF _ hp);have:=wu h q.1;have:=hd q bY;lia
theorem zY:∀d c,(kY c d).length<=c.length+d.length
 |[],c=>by rw[Gj];simp
 |p::d,c=>by
  rw[pF];have:=zY d (put c p.1 (low c p.1+p.2));have:=aac c p.1 (low c p.1+p.2);simp only[cD];lia
theorem zZ:∀d c k,(keys d).Nodup->low (kY c d) k=low c k+low d k
 |[],c,k,_=>by rw[Gj,Ol];lia
 |p::d,c,k,h=>by
  have h':(p.1::keys d).Nodup:=h;rw[iu]at h';rw[pF,zZ d _ k h'.2,aad,zX];by_cases e:k=p.1
  ·rw[mI e,mI e.symm,e,iJ h'.1];lia
  ·rw[mB e,mB (fun z=>e z.symm)]
theorem Wt:∀(d:Tab){c:Tab},(keys c).Nodup->(vals (kY c d)).sum=(vals c).sum+(vals d).sum
 |[],c,_=>by rw[Gj];simp[vals]
 |p::d,c,h=>by
  rw[pF,Wt d (Z9 h _ _),ahI h];simp only[vals,cR,gH];lia
theorem Bj:∀d c k,k∈keys (kY c d)↔k∈keys c\/k∈keys d
 |[],c,k=>by rw[Gj];simp[keys]
 |p::d,c,k=>by
  rw[pF,Bj d,Gh];have e:keys (p::d)=p.1::keys d:=rfl;rw[e,aP];constructor
  ·rintro((h|h)|h)
   ·exact .inr (.inl h)
   ·exact .inl h
   ·exact .inr (.inr h)
  ·rintro(h|h|h)
   ·exact .inl (.inr h)
   ·exact .inl (.inl h)
   ·exact .inr h
theorem Ok.z7{tw tw':Int->Int}(h:Ok room c t l tw)(h':Ok room d t' l' tw'):
  Pre room (kY c d) (t+t') (l+l') (fun k=>tw k+tw' k):=by
 show#[Bh d h.nd,Q6 d h.pos h'.pos,by have:=h.l0;have:=h'.l0;lia,?_,fun k=>?_,fun k=>?_]
 ·rw[Wt d h.nd,Y4];have:=h.sum;have:=h'.sum;lia
 ·rw[zZ d c k h'.nd];have:=h.lo k;have:=h'.lo k;lia
 ·rw[zZ d c k h'.nd];have:=h.hi k;have:=h'.hi k;lia
theorem Ok.empty(room:Nat):Ok room [] 0 0 (fun _=>0):=
 #[rP,(fun _ h=>by cases h),cg _,cC 0,by simp[vals],fun k=>by rw[Ol];exact cC 0,fun k=>by rw[Ol];exact cC 0]
end MG
namespace MK
def Uz(r:Int)(h:Nat):Prop:=∃m:Int,r=m*2 ^ h/\m % 2=1
theorem jk(n:Nat):(0:Int)<2 ^ n:=aeP tb_g%
theorem Uz.uniq(a:Uz r h)(b:Uz r k):h=k:=by
 have key:∀{h k:Nat}{m n:Int},h<k->m*2 ^ h=n*2 ^ k->m % 2=1->False:=by
  intro h k m n hlt e hm;obtain⟨d,rfl⟩:∃d,k=h+(d+1):=#[k-h-1,by lia];rw[aeQ,<-Ds,alw]at e;have e2:=Int.eq_of_mul_eq_mul_right (alE (jk h)) e;rw[zA,<-Ds]at e2;lia
 obtain⟨m,e1,h1⟩:=a;obtain⟨n,e2,h2⟩:=b;rcases alj h k with l|l|l
 ·exact(key l (e1.symm.trans e2) h1).elim
 ·exact l
 ·exact(key l (e2.symm.trans e1) h2).elim
def To(r x:Int)(i:Nat):Prop:=r=x*2 ^ i/\x≠0
theorem To.step(h:To r x i)(e:x % 2=0):To r (x / 2) (i+1):=by
 obtain⟨h1,h2⟩:=h;have hx:x=x / 2*2:=by lia
 show#[?_,by lia];rw[h1,zA,aeM (2 ^ i) 2,<-Ds,<-hx]
theorem To.stop(h:To r x i)(e:¬ x % 2=0):Uz r i:=#[x,h.1,by lia]
def M:Int:=1152921504606846976
theorem arP:(2:Int) ^ 60=1152921504606846976:=by decide
theorem Uz.ne(a:Uz r h):r≠0:=by
 obtain⟨m,e,hm⟩:=a;intro z;rw[z]at e;rcases Int.mul_eq_zero.mp e.symm with q|q
 ·lia
 ·exact mM q (alE (jk h))
theorem Uz.lt(a:Uz r h)(h0:0<=r)(h1:r<1152921504606846976):h<60:=by
 obtain⟨m,e,hm⟩:=a;rcases iy h 60 with q|q
 ·exact q
 ·obtain⟨d,rfl⟩:∃d,h=60+d:=#[h-60,by lia];exfalso;rw[aeQ,arP]at e;have hd:=jk d;rcases alF m 0 with l|l
  ·have:m*(1152921504606846976*2 ^ d)<0:=alv l tb_g%;lia
  ·have h3:1*(1152921504606846976*1)<=m*(1152921504606846976*2 ^ d):=aeL tb_g% tb_g% tb_g% tb_g%;lia
theorem To.lt(h:To r x i)(h0:0<r)(h1:r<1152921504606846976):i<60/\0<x/\x<=r:=by
 obtain⟨e,hx⟩:=h;have hp:=jk i;have x0:0<x:=by
  rcases alF x 0 with l|l
  ·have:x*2 ^ i<0:=alv l hp;lia
  ·lia
 show#[?_,x0,?_]
 ·rcases iy i 60 with q|q
  ·exact q
  ·obtain⟨d,rfl⟩:∃d,i=60+d:=#[i-60,by lia];exfalso;rw[aeQ,arP]at e;have hd:=jk d;have h3:1*(1152921504606846976*1)<=x*(1152921504606846976*2 ^ d):=aeL tb_g% tb_g% tb_g% tb_g%;lia
 ·have h3:x*1<=x*2 ^ i:=Qd tb_g% tb_g%;lia
end MK
namespace L2
open PySem MG
def emb(c:Tab):List (Key × V):=c.map fun p=>((Sum.inl p.1:Key),V.int p.2)
theorem wB(c:Tab):(emb c).length=c.length:=aD _
theorem anA(c:Tab):(emb c).map (·.2)=(vals c).map V.int:=by
 unfold emb vals;rw[dB,dB];rfl
theorem ab1(c:Tab):((emb c).map fun p=>kV p.1)=(keys c).map V.int:=by
 unfold emb keys;rw[dB,dB];rfl
theorem anB{c:Tab}{i:Nat}{p:Key × V}(h:(emb c)[i]? = some p):∃q,c[i]? = some q/\p=(Sum.inl q.1,V.int q.2):=by
 unfold emb at h;rw[cP]at h;cases e:c[i]? with
 |none=>rw[e]at h;cases h
 |some q=>rw[e]at h;show#[q,rfl,(bC h).symm]
theorem Om:((Sum.inl a:Key)=Sum.inl b)↔a=b:=#[fun h=>amD h,fun h=>by rw[h]]
theorem Q7(c:Tab)(k:Int):BP (emb c) (Sum.inl k:Key)=(look c k).map V.int:=by
 induction c with
 |nil=>rfl
 |cons p r ih =>
  have e:emb (p::r)=(Sum.inl p.1,V.int p.2)::emb r:=rfl;rw[e,gQ];by_cases h:p.1=k
  ·rw[Gd (p:=((Sum.inl p.1:Key),V.int p.2)) (Om.mpr h),mI h];rfl
  ·rw[Ge (p:=((Sum.inl p.1:Key),V.int p.2)) (fun z=>h (Om.mp z)),mB h,ih]
theorem ahK(c:Tab)(k:Int):(BP (emb c) (Sum.inl k:Key)).getD (.int 0)=.int (low c k):=by
 rw[Q7];unfold low;cases look c k <;> rfl
theorem ab2(h:look c k=some v):BP (emb c) (Sum.inl k:Key)=some (.int v):=by rw[Q7,h];rfl
theorem aqi(c:Tab)(k:Int):((emb c).any fun kv=>decide (kv.1=(Sum.inl k:Key)))=c.any fun p=>decide (p.1=k):=by
 induction c with
 |nil=>rfl
 |cons p r ih =>
  have e:emb (p::r)=(Sum.inl p.1,V.int p.2)::emb r:=rfl;rw[e,CP,CP,ih];congr 1;by_cases h:p.1=k
  ·rw[mP h,mP (Om.mpr h)]
  ·rw[xj h,xj (fun z=>h (Om.mp z))]
theorem Gk(c:Tab)(k v:Int):putK (emb c) (Sum.inl k:Key) (.int v)=emb (put c k v):=by
 unfold putK put;rw[aqi];by_cases h:(c.any fun p=>decide (p.1=k))=true
 ·rw[mI h,mI h];unfold emb;rw[dB,dB];apply xU;intro p _;by_cases e:p.1=k
  ·simp[e]
  ·simp[e]
 ·rw[mB h,mB h];unfold emb;rw[aR];rfl
def But(p:Addr)(H H':Hp):Prop:=∀b o,H b=some o->b≠p->H' b=some o
theorem Same.but(h:Same H H')(p:Addr):But p H H':=fun b o e _=>h b o e
theorem But.trans(a:But p H H1)(b:But p H1 H2):But p H H2:=fun c o h n=>b c o (a c o h n) n
theorem But.upd:But p H (upd H p o):=fun b u h n=>by rwa[ao n]
theorem Same.new(h:H p=none):Same H (upd H p o):=fun b u e=>by rwa[ao (ak e h)]
section
variable{K:aH}{H:Hp}{Q:VK}
theorem rdF(h:H a=some (.ins C dx fs))(c:Cls K C)(n:cB K C f)(l:fs.lookup f=some v)(q:Q v H):rFld K f (.ref a) H Q:=#[a,C,dx,fs,v,rfl,h,c,n,l,q]
theorem dF(h:SqL K H a xs)(e:atI xs i=some v)(q:Q v H):QW K (.ref a) (.int i) H Q:=.inl #[a,xs,i,v,rfl,rfl,h,e,q]
theorem jm(h:SqT K H a xs)(e:atI xs i=some v)(q:Q v H):QW K (.ref a) (.int i) H Q:=.inr (.inl #[a,xs,i,v,rfl,rfl,h,e,q])
theorem anC(h:Rd H a (.dK kvs))(e:BP kvs (Sum.inl i:Key)=some v)(q:Q v H):QW K (.ref a) (.int i) H Q:=
 .inr (.inr #[a,v,rfl,.inl #[kvs,Sum.inl i,h,rfl,e.symm],q])
theorem cM(h:SqL K H a xs)(q:Q (.int xs.length) H):ahE K [.ref a] H Q:=.inl #[.ref a,xs.length,rfl,.inl #[xs,h,rfl],q]
theorem auK(h:Rd H a (.dK kvs))(q:Q (.int kvs.length) H):ahE K [.ref a] H Q:=.inr #[a,kvs,rfl,h,q]
theorem arQ(h:Rd H a (.dK kvs)):Z7 H a (.int i) (BP kvs (Sum.inl i:Key)):=.inl #[kvs,Sum.inl i,h,rfl,rfl]
theorem af2(h:H a=some (.dK kvs))(hl:kvs.length<sizeLine)(q:R (upd H a (.dK (putK kvs (Sum.inl i) v)))):arO (.ref a) (.int i) v H R:=
 .inr #[a,_,rfl,.inl #[kvs,Sum.inl i,h,rfl,hl,rfl],q]
end
theorem anD(K:aH)(t:Value)(h:(t == t)=true):Jf K t t=some true:=by unfold Jf;rw[mI h]
theorem auL{K:aH}(h1:(Value.type a == Value.type b)=false)(h2:ak9 b=true)(h3:(fastBuiltinMro a).map (·.contains (Value.type b))=some r):
  Jf K (.type a) (.type b)=some r:=by
 unfold Jf PySem.W.kitCls;rw[mB (by rw[h1];exact gM)];show(if ak9 b=true then PySem.W.subIn K (.type a) (.type b)else none)=some r;rwa[mI h2]
theorem af3(h0:-(2 ^ 64)<i)(h1:i<2 ^ 64):am1 i j:=.inl #[by lia,by lia]
theorem dR(h0:-(2 ^ 64)<j)(h1:j<2 ^ 64):am1 i j:=.inr #[by lia,by lia]
end L2
namespace L2
open PySem PySem.Spec PyProof.Rows
def ab3(cells:List (Str × Addr)):List (Str × Addr)->Prop
 |[]=>True
 |p::r=>cells.lookup p.1=some p.2/\ab3 cells r
theorem ab3.of:∀{cl:List (Str × Addr)} {y:Str} {c:Addr},ab3 cells cl->cl.lookup y=some c->cells.lookup y=some c
 |[],_,_,_,h=>by cases h
 |p::r,y,c,hs,h=>by
  obtain⟨n,a⟩:=p;rw[ad2]at h;by_cases e:y=n
  ·subst e;rw[beq_self_eq_true]at h;cases h;exact hs.1
  ·rw[xk.mpr e]at h;exact ab3.of hs.2 h
@[reducible] def dN(X:Cx)(N:List Str)(scope:Scope)(cl:List (Str × Addr))(s:Shared)(H:Hp)(fp:List Addr)(C:Addr):Cx where
 prog:=X.prog
 w:=X.w
 K:=X.K
 mg:=X.mg
 base:=X.base
 A:=X.A
 N:=N
 s₀:=s
 H₀:=H
 env:=compEnvC scope cl C X.env
 outer:=X.stack
 stack:=X.stack
 ex:=fp
 fn:=fun _=>false
 calm:=X.calm
 pn:=[]
 xe:=fun _ _=>False
structure ab4(X:Cx)(N:List Str)(scope:Scope)(cl:List (Str × Addr))(i j:Nat):Prop where
 ok:∃y c,N[i]? = some y/\X.N[j]? = some y/\(X.env.kindOf y=some .cell\/X.env.kindOf y=some .free)/\((m5 scope X.env).names.lookup y=some .cell\/(m5 scope X.env).names.lookup y=some .free)/\cl.lookup y=some c
def z8(σ:St)(x:Option V)(caps:List Nat):St:=x::caps.map fun j=>(σ[j]?).join
def oX(σ:St)(zs:List (Option V))(caps:List Nat):St:=zs++caps.map fun j=>(σ[j]?).join
def uF(J:It)(g:TG)(k:Nat)(caps:List Nat)(tt:TT)(te:TE)(σ:St)(D:Addr)(Q:VK)(H1:Hp):Prop:=∃W:Nat->Nat->List V->Hp->Prop,(∃m,W 0 m [] (upd H1 D (.lst [])))/\∀i m ys H,W i m ys H ->
 H D=some (.lst ys)/\((J.stop i H/\Q (.ref D) H)\/(J.go i H/\ys.length<sizeLine/\∀ x H',J.yld i H x H'->∀ zs:List (Option V),zs.length=k->g x (oX σ zs caps) H' fun σ2 H2=>(∃ zs':List (Option V),zs'.length=k/\σ2=oX σ zs' caps)/\tt σ2 H2 fun b H3=>if b=true then
  te σ2 H3 fun y H4=>H4 D=some (.lst ys)/\∃m',m'<m/\W (i+1) m' (ys++[y]) (upd H4 D (.lst (ys++[y])))
  else H3 D=some (.lst ys)/\∃ m',m'<m/\W (i+1) m' ys H3))
def auM(wi:TI)(g:TG)(k:Nat)(caps:List Nat)(tt:TT)(te:TE):TE:=fun σ H Q=>wi σ H fun J H1=>∀D,H1 D=none->uF J g k caps tt te σ D Q H1
section
variable{X:Cx}{pins:List (Addr × Obj)}{σ:St}{H:Hp}{s:Shared}
theorem Inv.compT{k:Nat}{N:List Str}{scope:Scope}{cl:List (Str × Addr)}{fp:List Addr}{caps:List Nat}{h4:Heap}{D C:Addr}{tk:Nat}(I:Inv X pins σ H s)(hkind:scope.kind=.function)(hsub:ab3 X.env.cells cl)
  (hhas:∀y,((m5 scope X.env).names.lookup y=some .cell\/(m5 scope X.env).names.lookup y=some .free)->∃c,cl.lookup y=some c) (hf:∀b∈fp,FZ X pins H b) (hfo:∀b∈fp,∃o,s⁻¹ b=some o)
  (hlen:N.length=k+caps.length) (hcap:∀(i:Nat)(j:Nat),caps[i]? = some j->ab4 X N scope cl (i+k) j) (hD: ~~~s<=D) (hC: ~~~s<=C) (hDC:C≠D)
  (hk:∀b o,s⁻¹ b=some o->h4.get? b=some o) (hlist:∃n,h4.get? D=some { cls:=.type "list",data:=.seq #[] n }) (hns:∃m,h4.Ns C m):
  Inv (dN X N scope cl s H fp C) (X.pn++pins) (oX σ (jd k none) caps) (upd H D (.lst [])) { s with heap:=h4,toks:=tk }:=by
 have hnD:H D=none:=I.hok.fresh hD;have hnC:H C=none:=I.hok.fresh hC;have lt:∀b o,s⁻¹ b=some o->b≠D/\b≠C:=fun b o e=>#[bJ (eZ (aV e) hD),bJ (eZ (aV e) hC)];have nst:∀b,b≠X.env.locals->b∉X.fs->b∉frs X.stack:=fun b h1 h2 z=>by
  rcases aP.mp (I.ZQ b z)with e|e
  ·exact h1 e
  ·exact h2 e
 show#[#[I.ok.mod,hkind,I.ok.glob,I.ok.blt,hC,fun x y c h1 h2=>I.ok.inj x y c (hsub.of h1) (hsub.of h2),fun y hy=>hhas y hy,fun y c h=>(nomatch h),I.ok.hd,I.ok.frames,.inl rfl,fun b hb=>?_,I.bs,cW I.ok.bsz I.sz,fun b o e hb=>?_,fun b hb=>?_,I.stack,I.ahs],
  rfl,I.bare,Un.laid hk hD hnD,?_,fun y c e=>?_,?_,fun y c e=>?_,fun p hp=>?_,?_,?_]
 ·obtain⟨o,e⟩:=hfo b hb;show#[(lt b o e).2,fun x c q=>(hf b hb).2.2.2.2.1 x c (hsub.of q)]
 ·rcases(hf b hb).2.2.2.1 with z|z
  ·exact I.ok.amQ b o e z
  ·exact mM (eZ (aV e) I.ok.bsz) (aeG.mpr z)
 ·exact nst b (hf b hb).2.1 (hf b hb).2.2.1
 ·obtain⟨m,hm⟩:=hns;obtain⟨m0,_,hl⟩:=I.loc;show#[m,hm,fun i y v h1 h2 h3=>?_];have h2a:(jd k (none:Option V)++caps.map fun j=>(σ[j]?).join)[i]? = some (some v):=h2;by_cases hik:i<k
  ·rw[OJ (by rwa[BZ]),aj9,mI hik]at h2a;cases h2a
  ·rw[Ft (by rw[BZ];lia),BZ]at h2a;obtain⟨i',rfl⟩:∃i',i=i'+k:=#[i-k,by lia];rw[Nat.add_sub_cancel]at h2a;have h2':=h2a;rw[cP]at h2';cases ec:caps[i']? with
   |none=>rw[ec]at h2';cases h2'
   |some j =>
    rw[ec]at h2';have h2'':(σ[j]?).join=some v:=bC h2';have e2:σ[j]? = some (some v):=by
     cases q:σ[j]? with
     |none=>rw[q]at h2'';cases h2''
     |some z=>rw[q]at h2'';exact mN some h2''
    obtain⟨y',c,n1,n2,k1,k2,lc⟩:=(hcap i' j ec).ok;have ey:y=y':=by
     have h1':N[i'+k]? = some y:=h1;rw[n1]at h1';exact(bC h1').symm
    subst ey;have vis:Vis X.env.scope y:=k1.elim (fun z=>.inr (.inl z)) fun z=>.inr (.inr z);obtain⟨u,ru,lk⟩:=hl j y v n2 e2 vis;show#[u,ru,.inr #[k2,c,lc,?_]];rcases lk with⟨z,_⟩|⟨_,c',lc',ic⟩
    ·rcases k1 with k1|k1 <;> (rw[z]at k1;cases k1)
    ·rw[hsub.of lc]at lc';cases lc';obtain⟨o,ho,hd⟩:=ic;show#[o,hk c o ho,hd]
 ·obtain⟨v,o,ho,hd⟩:=I.cell y c (hsub.of e);show#[v,o,hk c o ho,hd]
 ·show(upd H D (.lst [])) C=none;rwa[ao hDC]
 ·have n:=I.xZ y c (hsub.of e);obtain⟨v,o,ho,hd⟩:=I.cell y c (hsub.of e);rwa[ao (lt c o ho).1]
 ·have hp':p∈X.pn++pins:=hp;obtain⟨e,n,ne,nf,d⟩:=I.pin p hp';show#[hk _ _ e,by rwa[ao (lt _ _ e).1],(lt _ _ e).2,nst _ ne nf,d]
 ·obtain⟨n,e⟩:=hlist;exact I.hok.laid hk hD #[cg _,[],n,.nil,e]
 ·show(oX σ (jd k none) caps).length=N.length;unfold oX;rw[cu,BZ,aD,hlen]
theorem Inv.anE{N:List Str}{scope:Scope}{cl:List (Str × Addr)}{fp:List Addr}{C:Addr}{ahu:List (Addr × Obj)}{σ':St}{H':Hp}{s':Shared}{h':Heap}(I:Inv X pins σ H s)(hf:∀b∈fp,FZ X pins H b)(hC: ~~~s<=C)
  (I':Inv (dN X N scope cl s H fp C) ahu σ' H' s') (hs:lF C s'.heap h'):Inv X pins σ H' { s' with heap:=h' }:=by
 obtain⟨hp,g,d,t,os⟩:=s';have eo:os=s.os:=I'.os;subst eo;have ne:∀b o,s⁻¹ b=some o->b≠C:=fun b o e=>bJ (eZ (aV e) hC);have hn:H' C=none:=I'.free;have B:Un (frs X.stack) fp H H' s.heap hp:=I'.base;have kp:∀b o,b≠C->hp.get? b=some o->h'.get? b=some o:=fun b o hb e=>(hs.2 b hb).trans e
 suffices r:Inv X pins σ H' { s with heap:=h',gens:=g,drawn:=d,toks:=t }from r
 refine I.call (h':=h') (g':=g) (d':=d) (t':=t) (ch:=fp) #[fun b o e n h1 h2=>kp b o (ne b o e) (B.keep b o e n h1 h2),fun b o e n h1 h2=>?_,B.free,fun b o e h2=>?_,B.tups,B.JB,B.QH] (fun b u e=>?_) I'.bare fun b hb=>?_
 ·obtain⟨sl,q⟩:=B.slot b o e n h1 h2;show#[sl,kp b _ (ne b o e) q]
 ·obtain⟨o',q⟩:=B.there b o e h2;show#[o',kp b _ (ne b o e) q]
 ·have nb:∀c v,H' c=some v->c≠C:=fun c v q z=>by rw[z,hn]at q;cases q
  refine(I'.hok b u e).stay (fun c v hc q=>kp c v ?_ q) (fun _ q=>q) fun _ _ q=>q;rcases hc with z|z
  ·rw[z];exact nb b u e
  ·exact nb c _ z
 ·obtain⟨f0,f1,f2,f3,f4,f5⟩:=hf b hb;show#[f3,f1,f4,f5]
end
def oY(J:It)(caps:List Nat)(tt:TT)(te:TE)(σ:St)(D:Addr)(Q:VK)(H1:Hp):Prop:=∃W:Nat->Nat->List V->Hp->Prop,(∃m,W 0 m [] (upd H1 D (.lst [])))/\∀i m ys H,W i m ys H ->
 H D=some (.lst ys)/\((J.stop i H/\Q (.ref D) H)\/(J.go i H/\ys.length<sizeLine/\∀ x H',J.yld i H x H'->tt (z8 σ (some x) caps) H' fun b H2=>if b=true then
  te (z8 σ (some x) caps) H2 fun y H3=>H3 D=some (.lst ys)/\∃m',m'<m/\W (i+1) m' (ys++[y]) (upd H3 D (.lst (ys++[y])))
  else H2 D=some (.lst ys)/\∃ m',m'<m/\W (i+1) m' ys H2))
def arR(wi:TI)(caps:List Nat)(tt:TT)(te:TE):TE:=fun σ H Q=>wi σ H fun J H1=>∀D,H1 D=none->oY J caps tt te σ D Q H1
def PTs(X:Cx)(ifs:List Expr)(tt:TT):Prop:=∀pins s σ H Q,Inv X pins σ H s->tt σ H Q ->
 wpAny (model X.prog X.w) X.A (forIn ifs true fun c r=>if r=true then do let ok <-Pz c X.env (eval c X.env);pure (ForInStep.yield ok)else pure (ForInStep.yield r)) (TP X pins σ Q) X.xe s
def wC:TT:=fun _ H Q=>Q true H
theorem iz:PTs X [] wC:=fun _ _ _ H _ I h=>wpAny_tests_nil #[H,I,h]
theorem Oo(h:PT X c tt):PTs X [c] tt:=fun pins s σ H Q I q=>wpAny_tests_one (h pins s σ H Q I q)
section
variable{R:lC->Shared->Prop}{s:Shared}
def anF(P:aN)(w:World)(B:aU)(R:lC->Shared->Prop)(elt tg:Expr)(ifs:List Expr)(it acc:Value)(en:Env)(J:Nat->Shared->Prop)(n:Nat):Option Value->Shared->Prop
 |none,t1=>R (.ok .next) t1
 |some v,t1 =>
  let X:=notedBy (model P w) B en fun e t=>R (.error e) t
  wpAny (model P w) B (Yi tg it v) (fun _ t2=>wpAny (model P w) B (vA tg en v) (fun _ t3 =>
   wpAny (model P w) B (forIn ifs true fun c r=>if r=true then do let yes <- Pz c en (eval c en);pure (ForInStep.yield yes) else pure (ForInStep.yield r)) (fun yes t4 =>
    if yes=true then wpAny (model P w) B (eval elt en) (fun x t5=>wpAny (model P w) B (call (.builtin "list.append") [acc,x]) (fun _ t6=>∃m,m<n/\J m t6) X t5) X t4
    else ∃ m,m<n/\J m t4) X t3) X t2) X t1
theorem af4(J:Nat->Shared->Prop)
  (owe:∀n t,J n t->wpAny (model P w) B (fM it) (anF P w B R elt tg ifs it acc en J n) (notedBy (model P w) B en fun e t'=>R (.error e) t') t) (n:Nat) (h:J n s):
  fY (model P w) B (.compLoop (.ListComp elt [#[tg,iter,ifs,0]] scope pos) 0 it acc en) R s:=by
 have same:∀{X:Value->Shared->Prop}(a:Value)(b:Shared),X a b->X a b:=fun _ _ h=>h;refine codeAny_loop rfl J (fun n t hJ=>?_) n h;show wpAny _ B ((compTurn (.ListComp elt [#[tg,iter,ifs,0]] scope pos) 0 it acc en).onRaise (fun x=>do noteFrame x en;theTreesLotGoes x)) _ _ t;refine wpAny_noted ?_;rw[compTurn_list];refine aA (aeh (aA (iw (owe n t hJ) (fun r t1 h1=>?_) same)));cases r with
 |none=>exact aF h1
 |some v =>
  refine aA (iw h1 (fun _ t2 h2=>aA (iw h2 (fun _ t3 h3=>aA (iw h3 (fun yes t4 h4=>?_) same)) same)) same);cases yes with
  |false=>exact aF #[rfl,h4]
  |true=>exact aA (aA (iw h4 (fun x t5 h5=>aA (iw h5 (fun _ t6 h6=>aF (aF #[rfl,h6])) same)) same))
end
section
variable{X:Cx}
theorem Lh{elt iter tg:Expr}{g:TG}{k:Nat}{ifs:List Expr}{scope:Scope}{pos:Pos}{cl:List (Str × Addr)}{N:List Str}{caps:List Nat}{tt:TT}{te:TE}{pins:List (Addr × Obj)}{σ:St}{H2:Hp}{s2:Shared}{Q:VK}{it:Addr}{fp:List Addr}{tn:Nat->Heap->Prop}{J:It}
  {RR:Value->Addr->lC->Shared->Prop} {E:Value->Shared->Prop} (hc:X.calm=true)
  (hcell:∀y∈scope.names,y.2≠.cell) (hkind:scope.kind=.function) (hsub:ab3 X.env.cells cl)
  (hhas:∀y,((m5 scope X.env).names.lookup y=some .cell\/(m5 scope X.env).names.lookup y=some .free)->∃c,cl.lookup y=some c)
  (hg:∀s H fp C,PG (dN X N scope cl s H fp C) tg g) (hlen:N.length=k+caps.length) (hcap:∀(i:Nat)(j:Nat),caps[i]? = some j->ab4 X N scope cl (i+k) j)
  (ht:∀s H fp C,PTs (dN X N scope cl s H fp C) ifs tt) (he:∀s H fp C,PE (dN X N scope cl s H fp C) elt te)
  (I2:Inv X pins σ H2 s2) (T:Turn X.prog X.w X.K tg J fp it tn) (st2:tn 0 s2.heap) (f2:∀b∈fp,FZ X pins H2 b) (w2:∀D,H2 D=none->uF J g k caps tt te σ D Q H2)
  (hRR:∀D C σ' H' s5,~~~s2<=C->Inv (dN X N scope cl s2 H2 fp C) (X.pn++pins) σ' H' s5->Q (.ref D) H'->RR (.ref D) C (.ok .next) s5):
  wpAny (model X.prog X.w) X.A (Yz []) (fun acc s₃=>wpAny (model X.prog X.w) X.A (newFunctionEnv scope X.env.globals cl [] X.env.qual none .none (some X.env)) (fun cenv s₄ =>
   fY (model X.prog X.w) X.A (.compStart (.ListComp elt [#[tg,iter,ifs,0]] scope pos) 0 (.ref it) acc { cenv with scope:=m5 scope X.env }) (RR acc cenv.locals) s₄) E s₃) E s2:=by
 refine yV (wpAny_newFunctionEnv hcell (by intro y hy;simp at hy) (fun h₁ hns₁ hsb₁=>?_) hkind);dsimp only at hns₁ hsb₁ ⊢;generalize hH2:s2.heap.push { cls:=.type "list",dict:=none,data:=.seq ([]:List Value).toArray }=G2 at hns₁ hsb₁ ⊢;have hC:G2.objs.size= ~~~s2+1:=by rw[<-hH2,pQ]
 have hCle: ~~~s2<=G2.objs.size:=by rw[hC];exact jN _
 have hDC:G2.objs.size≠ ~~~s2:=by rw[hC];exact jM (sH _)
 have old:∀b o,s2⁻¹ b=some o->h₁.get? b=some o:=fun b o e =>
  hsb₁.extBut b o (by rw[hC];exact bJ (zx (aV e))) (cH _ (hH2 ▸ cH _ e))
 have hacc:∃n,h₁.get? (~~~s2)=some { cls:=.type "list",data:=.seq #[] n }:=#[_,hsb₁.extBut _ _ (aL hDC) (cH _ (hH2 ▸ cJ _ rfl))];have hnD:H2 (~~~s2)=none:=I2.hok.fresh (aK _);obtain⟨W,⟨m0,w0⟩,turn⟩:=w2 (~~~s2) hnD;have fo:∀b∈fp,∃o,s2⁻¹ b=some o:=fun b hb=>by
  obtain⟨o,e,_⟩:=T.obj _ _ st2 b hb;show#[o,e]
 have I3:Inv (dN X N scope cl s2 H2 fp G2.objs.size) (X.pn++pins) (oX σ (jd k none) caps) (upd H2 (~~~s2) (.lst [])) { s2 with heap:=h₁,toks:=s2.toks+([]:List (Str × Value)).length }:=
  I2.compT hkind hsub hhas f2 fo hlen hcap (aK _) hCle hDC old hacc #[_,hns₁]
 have st3:tn 0 h₁:=T.keep _ _ _ st2 fun b _ o e=>old b o e;have nf:∀b∈fp,b≠ ~~~s2:=fun b hb=>by
  obtain⟨o,e⟩:=fo b hb;exact bJ (aV e)
 have stat:∀{H':Hp},(∀b∈fp,H' b=none)->∀b∈fp,FZ (dN X N scope cl s2 H2 fp G2.objs.size) (X.pn++pins) H' b:=fun {H'} hn b hb=>by
  obtain⟨f0,f1,f2',f3,f4,f5⟩:=f2 b hb;obtain⟨o,e⟩:=fo b hb;show#[hn b hb,bJ (eZ (aV e) hCle),fun z=>?_,.inl hb,fun y c q=>f4 y c (hsub.of q),fun p hp=>f5 p hp];rcases aP.mp (I2.ZQ b z)with q|q
  ·exact f1 q
  ·exact f2' q
 have loop:fY (model X.prog X.w) X.A (.compLoop (.ListComp elt [#[tg,iter,ifs,0]] scope pos) 0 (.ref it) (.ref (~~~s2)) (compEnvC scope cl G2.objs.size X.env))
   (RR (.ref (~~~s2)) G2.objs.size) { s2 with heap:=h₁,toks:=s2.toks+([]:List (Str × Value)).length }:=by
  refine af4 (fun n s'=>∃i ys σ' H',Inv (dN X N scope cl s2 H2 fp G2.objs.size) (X.pn++pins) σ' H' s'/\(∃zs:List (Option V),zs.length=k/\σ'=oX σ zs caps)/\tn i s'.heap/\(∀b∈fp,H' b=none)/\W i n ys H') ?_ m0
   #[0,[],_,_,I3,#[_,BZ,rfl],st3,fun b hb=>by rw[ao (nf b hb)];exact(f2 b hb).1,w0]
  rintro n s' ⟨i,ys,σ',H',I',⟨zs,hzs,rfl⟩,st',fr',w'⟩;obtain⟨hl,ends⟩:=turn i n ys H' w';rcases ends with⟨stop,q⟩|⟨go,hsz,step⟩
  ·refine iw (T.done (dN X N scope cl s2 H2 fp G2.objs.size) rfl rfl rfl hc i _ s' _ H' (fun _ _=>False) I' (stat fr') st' stop) (fun r s5 zq=>?_) fun _ _ f=>f.elim;obtain⟨hr,I5⟩:=zq;subst hr;exact hRR _ _ _ _ _ hCle I5 q
  ·refine iw (T.item (dN X N scope cl s2 H2 fp G2.objs.size) rfl rfl rfl hc i _ s' _ H' (fun _ _=>False) I' (stat fr') st' go) (fun r s5 zq=>?_) fun _ _ f=>f.elim;obtain⟨u,hr,h5⟩:=zq;subst hr;refine iw h5 (fun _ s6 zq=>?_) fun _ _ f=>f.elim;obtain⟨y,H6,I6,r6,y6,st6,fr6⟩:=zq;have I6':=I6.pinned (stat fr6) (T.obj _ _ st6);have again:∀{σ7:St}{H7:Hp}{s7:Shared},Inv (dN X N scope cl s2 H2 fp G2.objs.size) ((X.pn++pins)++QK fp s6.heap) σ7 H7 s7->tn (i+1) s7.heap/\∀b∈fp,H7 b=none:=fun {σ7 H7 s7} I7=>by
    show#[T.keep _ _ _ st6 fun b hb o e=>(I7.pin (b,o) (oG _ (oG _ (v9 hb e)))).1,fun b hb=>?_];obtain⟨o,e,d⟩:=T.obj _ _ st6 b hb;exact(I7.pin (b,o) (oG _ (oG _ (v9 hb e)))).2.1
   refine iw (hg s2 H2 fp G2.objs.size _ s6 _ H6 y u _ I6' r6 (step y H6 y6 zs hzs)) (fun _ s7 ⟨σ7,H7,I7,⟨zs7,hz7,e7⟩,q7⟩=>?_) fun _ _ f=>f.elim;subst e7;refine iw (ht s2 H2 fp G2.objs.size _ s7 _ _ _ I7 q7) (fun ok s8 zq=>?_) fun _ _ f=>f.elim;obtain⟨H8,I8,q8⟩:=zq;cases ok with
   |false =>
    obtain⟨_,m',hm,w8⟩:=q8;have a8:=again I8;show#[m',hm,i+1,ys,_,H8,I8.zU,#[zs7,hz7,rfl],a8.1,a8.2,w8]
   |true =>
    refine iw (he s2 H2 fp G2.objs.size _ s8 _ _ _ I8 q8) (fun x9 s9 zq=>?_) fun _ _ f=>f.elim;obtain⟨y9,H9,I9,r9,l9,m',hm,w9⟩:=zq;refine iw (Wh (X:=dN X N scope cl s2 H2 fp G2.objs.size) _ s9 _ H9 (.ref (~~~s2)) [y9] _ [x9] (fun _ H10=>H10=upd H9 (~~~s2) (.lst (ys++[y9]))) I9 rfl (.cons r9 .nil) #[_,ys,y9,rfl,rfl,l9,hsz,rfl]) (fun _ s10 zq=>?_) fun _ _ f=>f.elim;obtain⟨_,H10,I10,_,e10⟩:=zq;subst e10;have a10:=again I10;show#[m',hm,i+1,ys++[y9],_,_,I10.zU,#[zs7,hz7,rfl],a10.1,a10.2,w9]
 exact codeAny_compStart_list loop (T.self _ 0 _ _ _ st3 loop)
structure JL(X:Cx)(scope:Scope)(cl:List (Str × Addr))(N:List Str)(caps:List Nat)(k:Nat):Prop where
 calm:X.calm=true
 clos:closureFor scope X.env=pure cl
 cell:∀y∈scope.names,y.2≠.cell
 kind:scope.kind=.function
 names:∀y∈scope.names,y.2=.local->scope.names.lookup y.1=some .local
 sub:ab3 X.env.cells cl
 has:∀y,((m5 scope X.env).names.lookup y=some .cell\/(m5 scope X.env).names.lookup y=some .free)->∃c,cl.lookup y=some c
 len:N.length=k+caps.length
 cap:∀(i:Nat)(j:Nat),caps[i]? = some j->ab4 X N scope cl (i+k) j
variable{elt iter tg:Expr}{x y:Str}{px py spos:Pos}{g:TG}{k i:Nat}{ifs:List Expr}{scope:Scope}{pos:Pos}{cl:List (Str × Addr)}{N:List Str}{caps:List Nat}{wi:TI}{tt:TT}{te:TE}{R:It->St->Addr->VK->Hp->Prop}
theorem ab5(O:JL X scope cl N caps k)(hg:∀s H fp C,PG (dN X N scope cl s H fp C) tg g)(hi:PI X tg iter wi)(ht:∀s H fp C,PTs (dN X N scope cl s H fp C) ifs tt)(he:∀s H fp C,PE (dN X N scope cl s H fp C) elt te)
  (hR:∀{J σ D Q H},R J σ D Q H->uF J g k caps tt te σ D Q H) (hs:∀x,CV iter X.env x=pure x):PE X (.ListComp elt [#[tg,iter,ifs,0]] scope pos) (fun σ H Q=>wi σ H fun J H1=>∀D,H1 D=none->R J σ D Q H1):=by
 k_dat (Q,h) "g"
 rw[eval_ListComp];refine akB (use:=none) rfl hs O.clos O.kind O.names (thn (hi pins s σ H _ I h) fun v s1 h1=>thn h1 fun itv s2 h2=>?_);obtain⟨it,fp,tn,J,H2,e,I2,T,st2,f2,w2⟩:=h2;subst e;exact Lh O.calm O.cell O.kind O.sub O.has hg O.len O.cap ht he I2 T st2 f2 (fun D n=>hR (w2 D n)) fun D C σ' H' s5 hC I5 q=>by
  obtain⟨m,hm,_⟩:=I5.loc;show#[m,hm,fun h' hs'=>#[.ref D,H',I2.anE f2 hC I5 hs',rfl,q]]
theorem ab6(hXN:X.N.Nodup)(hi0:X.N[i]? = some y)(hy:Loc X.env.scope y)(O:JL X scope cl N caps k)(hg:∀s H fp C,PG (dN X N scope cl s H fp C) tg g)(hi:PI X tg iter wi)(ht:∀s H fp C,PTs (dN X N scope cl s H fp C) ifs tt)(he:∀s H fp C,PE (dN X N scope cl s H fp C) elt te)
  (hR:∀{J σ D Q H},R J σ D Q H->uF J g k caps tt te σ D Q H) (hs:∀x,CV iter X.env x=pure x) (hsw:Ja (.ListComp elt [#[tg,iter,ifs,0]] scope pos) (some (.Name y py)) spos.line X.env=pure true) (hf:X.fn y=true\/X.env.scope.names.lookup y=some .local):
  PS X (.Assign [.Name y py] (.ListComp elt [#[tg,iter,ifs,0]] scope pos) spos) (amV (fun σ H Q=>wi σ H fun J H1=>∀D,H1 D=none->R J σ D Q H1) (mQ i)):=by
 k_dat (D,h) "g"
 rw [exec_Assign_Name_used _ _ _ _ hsw];refine aA (aeh (aA ?_));show wpAny _ X.A (do let _ <- comprehension (.ListComp elt [#[tg,iter,ifs,0]] scope pos) scope X.env _ (Yz []) false (eval iter X.env) (some (vA (.Name y py) X.env))) _ _ s;refine aA (iw (akB (use:=some (vA (.Name y py) X.env)) (Q:=fun _ s'=>SP X pins D .next s') rfl hs O.clos O.kind O.names
  (thn (hi pins s σ H _ I h) fun v s1 h1=>thn h1 fun itv s2 h2=>?_)) (fun _ s' hq=>aF (aF hq)) fun _ _ e=>e)
 obtain⟨it,fp,tn,J,H2,e,I2,T,st2,f2,w2⟩:=h2;subst e;refine Lh (RR:=fun acc C=>compPost (model X.prog X.w) X.A X.xe (some (vA (.Name y py) X.env)) (fun _ s'=>SP X pins D .next s') acc C) O.calm O.cell O.kind O.sub O.has hg O.len O.cap ht he I2 T st2 f2 (fun D n=>hR (w2 D n)) fun D' C σ' H' s5 hC I5 q=>?_;show wpAny _ X.A (vA (.Name y py) X.env (.ref D')) _ _ _;have IX:Inv X pins σ H' s5:=I2.anE (h':=s5.heap) f2 hC I5 #[rfl,fun _ _=>rfl];have nL:C≠X.env.locals:=by
  obtain⟨m,⟨o,_,_,ho,_⟩,_⟩:=I2.loc;exact jM (eZ (aV ho) hC)
 have nC:∀z c,X.env.cells.lookup z=some c->c≠C:=fun z c e=>by
  obtain⟨v,o,ho,_⟩:=I2.cell z c e;exact bJ (eZ (aV ho) hC)
 refine akI (V5 IX hXN hi0 hy (v:=.ref D') rfl (fun s6 I6 hb=>?_) hf);obtain⟨m,hm,_⟩:=I5.loc;obtain⟨a,sb,ha⟩:=hb;have na:C≠a:=by
  rcases ha with z|z
  ·rwa[z]
  ·exact aL (nC _ _ z)
 show#[m,hm.sameBut sb na,fun h' hs'=>#[_,H',?_,q]];obtain⟨hp6,g6,d6,t6,o6⟩:=s6;refine I6.turned (it:=C) (t':=t6) (fun b o hb e=>(hs'.2 b hb).trans e) I5.free nL (.inr (cW I2.sz hC)) nC fun p hp z=>?_;have:=(I2.pin p hp).1;exact mM (eZ (aV this) (by rwa[z])) (oN _)
theorem oY.T(h:oY J caps tt te σ D Q H):uF J (mQ 0) 1 caps tt te σ D Q H:=by
 obtain⟨W,w0,turn⟩:=h;show#[W,w0,fun i m ys H w=>?_];obtain⟨a,b⟩:=turn i m ys H w;show#[a,b.imp id fun b=>?_];obtain⟨go,l,st⟩:=b;show#[go,l,fun x H' y zs hz=>?_];obtain⟨z,rfl⟩:=akd.mp hz;show#[#[[some x],rfl,rfl],st x H' y]
end
theorem auN{names:List (Str × Dg)}{cl:List (Str × Addr)}(h:(names.all fun p=>(p.2 != .cell && p.2 != .free) || (cl.lookup p.1).isSome)=true)(y:Str)(hy:names.lookup y=some .cell\/names.lookup y=some .free):∃c,cl.lookup y=some c:=by
 have key:∀k:Dg,(k=.cell\/k=.free)->names.lookup y=some k->∃c,cl.lookup y=some c:=fun k hk e=>by
  have m:=X4.mp h _ (Im e);have:(k != .cell && k != .free)=false:=by rcases hk with z|z <;> (subst z;rfl)
  rw[show((y,k):Str × Dg).2=k from rfl,this,alI]at m;exact aeT.mp m
 rcases hy with z|z
 ·exact key _ (.inl rfl) z
 ·exact key _ (.inr rfl) z
def Q8(X:Cx)(N:List Str)(scope:Scope)(cl:List (Str × Addr)):Nat->List Nat->Prop
 |_,[]=>True
 |i,j::r=>ab4 X N scope cl i j/\Q8 X N scope cl (i+1) r
theorem Q8.at:∀{caps:List Nat}{k:Nat},Q8 X N scope cl k caps->∀i j,caps[i]? = some j->ab4 X N scope cl (i+k) j
 |[],_,_,i,j,h=>by simp at h
 |a::r,k,hc,0,j,h=>by
  have e:a=j:=by simpa using h
  subst e;rw[lG];exact hc.1
 |a::r,k,hc,i+1,j,h=>by
  have:=Q8.at hc.2 i j (by simpa using h);rwa[show i+1+k=i+(k+1) by lia]
section
variable{X:Cx}{elt iter tg:Expr}{x y:Str}{px py spos:Pos}{g:TG}{k:Nat}{ifs:List Expr}{scope:Scope}{pos:Pos}{wi:TI}{tt:TT}{te:TE}
theorem af5{cl:List (Str × Addr)}{N:List Str}{caps:List Nat}(ca:X.calm=true:=by rfl)(a:closureFor scope X.env=pure cl:=by with_unfolding_all rfl)(b:∀y∈scope.names,y.2≠.cell:=by decide +kernel)(c:scope.kind=.function:=by rfl)
  (d:∀y∈scope.names,y.2=.local->scope.names.lookup y.1=some .local:=by decide +kernel) (e:ab3 X.env.cells cl:=by repeat' first|exact trivial|show#[rfl,?_]) (f:((m5 scope X.env).names.all fun p=>(p.2 != .cell && p.2 != .free) || (cl.lookup p.1).isSome)=true:=by with_unfolding_all rfl)
  (l:N.length=k+caps.length:=by rfl) (m:Q8 X N scope cl k caps:=by repeat' first|exact trivial|show#[#[_,_,rfl,rfl,.inl rfl,.inl rfl,rfl],?_]):JL X scope cl N caps k:=#[ca,a,b,c,d,e,auN f,l,m.at]
theorem jo(cl:List (Str × Addr))(N:List Str)(caps:List Nat)(hi:PI X (.Name x px) iter wi)(ht:∀s H fp C,PTs (dN X N scope cl s H fp C) ifs tt)(he:∀s H fp C,PE (dN X N scope cl s H fp C) elt te)(O:JL X scope cl N caps 1:=by exact af5)
  (hN:N.Nodup:=by decide +kernel) (h0:N[0]? = some x:=by rfl) (hx:(m5 scope X.env).names.lookup x=some .local:=by rfl) (hs:∀x,CV iter X.env x=pure x:=by intro _;rfl):PE X (.ListComp elt [#[.Name x px,iter,ifs,0]] scope pos) (arR wi caps tt te):=
 ab5 O (fun _ _ _ _=>v8 hN h0 (.inl hx) (.inr hx)) hi ht he oY.T hs
theorem jE(i:Nat)(hXN:X.N.Nodup)(cl:List (Str × Addr))(N:List Str)(caps:List Nat)(hi:PI X (.Name x px) iter wi)(ht:∀s H fp C,PTs (dN X N scope cl s H fp C) ifs tt)(he:∀s H fp C,PE (dN X N scope cl s H fp C) elt te)(O:JL X scope cl N caps 1:=by exact af5)
  (hN:N.Nodup:=by decide +kernel) (h0:N[0]? = some x:=by rfl) (hx:(m5 scope X.env).names.lookup x=some .local:=by rfl) (hs:∀x,CV iter X.env x=pure x:=by intro _;rfl) (hi0:X.N[i]? = some y:=by rfl) (hy:Loc X.env.scope y:=by exact Or.inl rfl)
  (hsw:Ja (.ListComp elt [#[.Name x px,iter,ifs,0]] scope pos) (some (.Name y py)) spos.line X.env=pure true:=by rfl) (hf:X.fn y=true\/X.env.scope.names.lookup y=some .local:=by first|exact .inl rfl|exact .inr rfl|assumption):
  PS X (.Assign [.Name y py] (.ListComp elt [#[.Name x px,iter,ifs,0]] scope pos) spos) (amV (arR wi caps tt te) (mQ i)):=ab6 hXN hi0 hy O (fun _ _ _ _=>v8 hN h0 (.inl hx) (.inr hx)) hi ht he oY.T hs hsw hf
theorem Wu(k:Nat)(cl:List (Str × Addr))(N:List Str)(caps:List Nat)(hg:∀s H fp C,PG (dN X N scope cl s H fp C) tg g)(hi:PI X tg iter wi)(ht:∀s H fp C,PTs (dN X N scope cl s H fp C) ifs tt)(he:∀s H fp C,PE (dN X N scope cl s H fp C) elt te)(O:JL X scope cl N caps k:=by exact af5)
  (hs:∀x,CV iter X.env x=pure x:=by intro _;rfl):PE X (.ListComp elt [#[tg,iter,ifs,0]] scope pos) (auM wi g k caps tt te):=ab5 O hg hi ht he id hs
end
theorem fZ{K:aH}{xs:List V}(Pv:Nat->List V->Hp->Prop)(h0:Pv 0 [] (upd H D (.lst [])))
  (hl:∀i ys H,i<=xs.length->Pv i ys H->SqL K H a xs/\H D=some (.lst ys)/\ys.length<sizeLine)
  (hs:∀i ys H x,xs[i]? = some x->Pv i ys H->te (z8 σ (some x) caps) H fun y H3=>H3 D=some (.lst ys)/\Pv (i+1) (ys++[y]) (upd H3 D (.lst (ys++[y])))) (hd:∀ys H,Pv xs.length ys H->Q (.ref D) H)
  (mono:∀σ H (Q Q':VK),(∀y H,Q y H->Q' y H)->te σ H Q->te σ H Q'):
  oY (Itl K a) caps wC te σ D Q H:=by
 show#[fun i m ys H=>m=xs.length-i/\i<=xs.length/\Pv i ys H,#[xs.length,by simp,cg _,h0],?_];rintro i m ys H ⟨rfl,hi,p⟩;obtain⟨sq,q,z⟩:=hl i ys H hi p;show#[q,?_];by_cases hlt:i<xs.length
 ·refine .inr #[#[xs,xs[i],sq,by simp[hlt]],z,fun x H' y=>?_];obtain⟨e,y⟩:=y;subst e;unfold wC;dsimp only;rw[mI rfl];exact mono _ _ _ _ (fun y H3 ⟨a,b⟩=>#[a,xs.length-(i+1),by lia,rfl,hlt,b]) (hs i ys _ x (y xs sq) p)
 ·have e:i=xs.length:=by lia
  subst e;exact .inl #[#[xs,sq,aK _],hd ys H p]
section
variable{X:Cx}
theorem af6{A:aU}{s:Shared}
  (K:alb X.prog X.w T r d n P OK) (hh:A.handled=none) (hok:OK s.heap) (hn:n<=sizeLine) (h64:n<64) (hP:∀us:List Value,us.length=n->(∀j v,us[j]? = some v->P j v)->IntsAre us ns)
  (h:∀h' tk l out ns' e,(∀ b ob,s⁻¹ b=some ob->h'.get? b=some ob)->(∀ b ob,s⁻¹ b=some ob->b≠l)->h'.get? l=some (cX "list" out e) ->
   IntsAre out.toList ns'->ns'.Perm ns->ns'.Pairwise (· <= ·)->Q (.ref l) { s with heap:=h',toks:=tk }) :
  wpAny (model X.prog X.w) A (call (.builtin "sorted") [.ref r]) Q E s:=by
 refine afi Zj Zh Zi (ae5 _) ?_;unfold cO.«sorted»;refine aA (m:=Ys "sorted" 1 1 _) (aF ?_);refine aA (ak4 (A:=A.in1) K hh hok hn fun h1 tk acc hk hacc=>?_);have hl:acc.toList.length=n:=by rw[qZ];exact hacc.1
 have hI:=hP acc.toList hl fun j v e=>hacc.2 j v (by rwa[<-pR]);refine aA (Pk ?_ (by rwa[hl]));have hoL:(h1.push (cX "list" acc.toList.toArray 0)).get? h1.objs.size=some (cX "list" acc.toList.toArray 0):=cJ _ rfl;refine aA (jD (xW Zd #[_,hoL,rfl] Zc (al1 hoL hI (by rwa[hl]) fun out ns' a1 a2 a3=>#[_,rfl,?_]) (ae2 _)));refine aF #[_,rfl,?_];obtain⟨e,he⟩:=ae3 (vs:=acc.toList) (out:=out) hoL;have hb:∀b ob,s⁻¹ b=some ob->b<h1.objs.size:=fun b ob e'=>aV (hk b ob e');refine h _ tk _ out ns' e (fun b ob e'=>?_) (fun b ob e'=>bJ (hb b ob e')) he a1 a2 a3;have hlt:=hb b ob e';rw[ae1 (bJ hlt) (by rw[Qn];exact zx hlt)];exact cH _ (hk b ob e')
def anG:List V->Hp->VK->Prop:=fun xs H Q=>∃a kvs ns,xs=[V.ref a]/\Rd H a (.dK kvs)/\(kvs.map fun p=>kV p.1)=ns.map V.int/\ns.length<64 /\
 ∀(l:Addr)(ns':List Int),H l=none->ns'.Perm ns->ns'.Pairwise (· <= ·)->Q (.ref l) (upd H l (.lst (ns'.map V.int)))
def anH(K:aH):List V->Hp->VK->Prop:=fun xs H Q=>∃a ns,xs=[V.ref a]/\SqL K H a (ns.map V.int)/\ns.length<64 /\
 ∀(l:Addr)(ns':List Int),H l=none->ns'.Perm ns->ns'.Pairwise (· <= ·)->Q (.ref l) (upd H l (.lst (ns'.map V.int)))
theorem af7(hc:X.calm=true):gA X (.builtin "sorted") anG:=by
 walk_at "l"
 obtain⟨a,kvs,ns,rfl,ha,ei,h64,q⟩:=h
 walk_at "x"
 cases ru;obtain⟨z,hd,vs,rel,dd⟩:=zW I.hok ha;obtain⟨ep,hat⟩:=dd.dictAt;have hl:=rel.length;have hns:ns.length=kvs.length:=by have:=mN fX ei;simpa using this.symm
 refine af6 (X:=X) (ns:=ns) (ak7 (knd:=bU X.prog X.w) (kvs:=vs) (ep:=ep) hd) (I.ok.hd hc) hat (by rwa[<-hl]) tb_g% (fun us hu hv=>?_) fun h' tk l' out ns' e' kp hne hl' hI hp ho=>?_
 ·have vv:=JK rel hu hv;rw[ei]at vv;exact intsAre_of vv
 ·show#[.ref l',_,I.QZ (t':=tk) kp hne (show dD X.prog X.w _ h' l' (.lst (ns'.map V.int))from#[?_,out.toList,e',pD hI,by simpa using hl']),rfl,q l' ns' (I.none_of hne) hp ho];rwa[aD,hp.length_eq,hns]
theorem af8:gA X (.builtin "sorted") (anH X.K):=by
 walk_at "l"
 obtain⟨a,ns,rfl,ha,h64,q⟩:=h
 walk_at "x"
 cases ru;obtain⟨its,rv,p,hz⟩:=I.list ha;have hI:=intsAre_of rv;have hl:its.length=ns.length:=by rw[<-rv.length,aD]
 refine sorted_ints p.isList hI tb_g% fun out ns' a1 a2 a3=>?_;obtain⟨e,he⟩:=al6 s.heap its out;show#[.ref (~~~s+1),_,I.laid (t':=s.toks) (fun _ _=>al4) (jN _) (show dD X.prog X.w _ _ (~~~s+1) (.lst (ns'.map V.int))from#[?_,out.toList,e,pD a1,by simpa using he]),rfl,q _ ns' (I.hok.fresh (jN _)) a2 a3];rw[aD,a2.length_eq];rwa[aD]at hz
def auO(K:aH):List V->Hp->VK->Prop:=fun xs H Q=>anG xs H Q\/anH K xs H Q
theorem iV(hc:X.calm=true):gA X (.builtin "sorted") (auO X.K):=(af7 hc).or af8
end
structure Fg(K:aH)(mg:Str->Option Value)(x:Str)(s:Stmt)(f:Addr)(d:FuncData)(ps:List Str):Prop extends Fun K x x s f d where
 b:Binds K d ps []
 g:mg x=some (.ref f)
section
variable{X:Cx}{x:Str}{pos pos':Pos}{e:Expr}{te:TE}{i:Nat}
theorem gi{l:List Str}{y:Str}(i:Nat)(h:l[i]? = some y:=by rfl):l[i]? = some y:=h
theorem cpE(h:PE X (.ListComp elt gs scope pos) te):PE X (.ListComp elt gs scope pos) te:=h
theorem cpS(h:PS X (.Assign [.Name x pos] (.ListComp elt gs scope pos') p2) t):PS X (.Assign [.Name x pos] (.ListComp elt gs scope pos') p2) t:=h
theorem cpN(h:PE X (.Name x pos) te):PE X (.Name x pos) te:=h
theorem pwB(h:PW X (.BoolOp op es pos) t):PT X (.BoolOp op es pos) t:=PW.pt h
structure Hold(p:Prop):Prop where
 h:p
theorem hdA(h:Hold (OpR X (mZ .Add) r)):OpR X (mZ .Add) r:=h.h
theorem hdE(h:Hold (OpR X (fB .Eq) r)):OpR X (fB .Eq) r:=h.h
theorem hdM(h:Hold (PE X (.Call (.Attribute o m pos) es kw pos') te)):PE X (.Call (.Attribute o m pos) es kw pos') te:=h.h
theorem psS(i:Nat)(hN:X.N.Nodup)(he:PE X e te)(hi:X.N[i]? = some x:=by rfl)(hx:Loc X.env.scope x:=by exact Or.inl rfl)(hs:Ja e (some (.Name x pos')) pos.line X.env=pure false:=by rfl)(hf:X.fn x=true\/X.env.scope.names.lookup x=some .local:=by first|exact .inl rfl|exact .inr rfl|assumption):
  PS X (.Assign [.Name x pos'] e pos) (amV te (mQ i)):=amW hN hi hx he hs hf
theorem pgN(i:Nat)(hN:X.N.Nodup)(hi:X.N[i]? = some x:=by rfl)(hx:Loc X.env.scope x:=by exact Or.inl rfl)(hf:X.fn x=true\/X.env.scope.names.lookup x=some .local:=by first|exact .inl rfl|exact .inr rfl|assumption):PG X (.Name x pos) (mQ i):=v8 hN hi hx hf
theorem pf(i:Nat){f:Str}(hN:X.N[i]? = some x:=by rfl)(hv:Vis X.env.scope x:=by first|exact Or.inl rfl|exact Or.inr (Or.inl rfl)|exact Or.inr (Or.inr rfl))(hd:(x == ("__debug__" : Str))=false:=by decide)(hcd:(x == ("__classdict__" : Str))=false:=by decide)
  (hb:yW (.Name x pos) f X.env (eval (.Name x pos) X.env)=eval (.Name x pos) X.env:=by rfl):PE X (.Attribute (.Name x pos) f pos') (abP X.K (tVar i) f):=am8 (pv i hN hv hd hcd) hb
end
abbrev FnK(P:aN)(w:World)(base:Heap){K:aH}{mg:Str->Option Value}{x:Str}{s:Stmt}{f:Addr}{d:FuncData}{ps:List Str}(_:Fg K mg x s f d ps)(CX:CXT)(k:Nat)(sp:Sp):Prop:=Fg K mg x s f d ps/\wg P w K mg base CX k f d ps sp
structure Mg(K:aH)(C:Addr)(n q:Str)(s:Stmt)(f:Addr)(d:FuncData)(ps:List Str):Prop extends Fun K n q s f d where
 b:Binds K d ps []
 m:Meth K C n f
abbrev FnM(P:aN)(w:World)(mg:Str->Option Value)(base:Heap){K:aH}{C:Addr}{n q:Str}{s:Stmt}{f:Addr}{d:FuncData}{ps:List Str}(_:Mg K C n q s f d ps)(CX:CXT)(k:Nat)(sp:Sp):Prop:=Mg K C n q s f d ps/\wg P w K mg base CX k f d ps sp
section
variable{X:Cx}{x m n q:Str}{pos apos pos':Pos}{e o:Expr}{es:List Expr}{ta:TE}{t:TA}{CX:CXT}{k:Nat}{C f:Addr}{fd:FuncData}{ps:List Str}{sp:Sp}{E:XK}{s:Stmt}
theorem aB(F:Fg X.K X.mg x s f fd ps/\wg X.prog X.w X.K X.mg X.base CX k f fd ps sp)(ha:PA X (e::es) t)(hr:iU k X.A:=by exact iU.mono (by assumption) tb_g%)(hx:Passes CX X E:=by exact ahD)
  (hg:Gl X x:=by rfl) (hdb:(x == ("__debug__" : Str))=false:=by decide) (he:cj (e::es) X.env=(false,eval e X.env)::cj es X.env:=by rfl) (hpl:(fK pos (cj es X.env)).any (·.1)=false:=by rfl):
  PE X (.Call (.Name x pos') (e::es) [] pos) (am9 sp [] E t):=apZ F.2 hr hg F.1.g F.1.kp F.1.b .nil hx ha hdb he hpl
theorem cI{pl:Sem Bool}(ho:PE X o ta)(c:Cls X.K C)(F:Mg X.K C m q s f fd ps/\wg X.prog X.w X.K X.mg X.base CX k f fd ps sp)(ha:PA X (e::es) t)(hr:iU k X.A:=by exact iU.mono (by assumption) tb_g%)(hx:Passes CX X E:=by exact ahD)
  (hst:cj (e::es) X.env=(false,eval e X.env)::cj es X.env:=by rfl) (hpl:(fK pos (cj es X.env)).any (·.1)=false:=by rfl)
  (ht:eval (.Call (.Attribute o m apos) (e::es) [] pos) X.env=(do
   let ov <-eval o X.env
   Yx apos.atName
   let (f,first) <-Dk [ov] (Yu ov m pl)
   callWith pos f first (fK pos (cj (e::es) X.env)) (Jb pos (IK [] X.env))):=by rfl) :
  PE X (.Call (.Attribute o m apos) (e::es) [] pos) (arJ C m sp [] E ta t):=ap0 ho c F.1.m F.2 hr F.1.b .nil hx ha hst hpl ht
theorem f9(hk:Mk X.K C f)(hm:X.mg x=some (.ref C))(F:Mg X.K C n q s f fd ps/\wg X.prog X.w X.K X.mg X.base CX k f fd ps sp)(ha:PA X (e::es) t)(hr:iU (k+1) X.A:=by exact iU.mono (by assumption) tb_g%)(hx:Passes CX X E:=by exact ahD)
  (hg:Gl X x:=by rfl) (hdb:(x == ("__debug__" : Str))=false:=by decide) (he:cj (e::es) X.env=(false,eval e X.env)::cj es X.env:=by rfl) (hpl:(fK pos (cj es X.env)).any (·.1)=false:=by rfl):
  PE X (.Call (.Name x pos') (e::es) [] pos) (arK C sp [] E t):=ap1 hk F.2 hr hg hm F.1.b .nil hx ha hdb he hpl
end
section
variable{A:aU}
end
section
variable{X:Cx}{pos:Pos}
end
end L2
namespace Tm
open PySem PyProof.Rows
class Rk where
 kd:SortKind
 R:Keyed->Int
 Ok:Keyed->Prop
class Rl [Rk] (prog:aN) (w:World) (A:aU) (E:Value->Shared->Prop) (s:Shared):Prop where
 lt:∀{x y:Keyed}{st:je}{Q:Option Bool->je->Prop},kindOf st=Rk.kd->Rk.Ok x->Rk.Ok y->Q (some (decide (Rk.R x<Rk.R y))) st->wpS (model prog w) A E s (lt' x y) Q st
section
variable[Rk]
def K(xs:Array Keyed)(i:Nat):Int:=match xs[i]? with
 |some x=>Rk.R x
 |none=>0
def kd0:SortKind:=Rk.kd
def Is(x:Keyed)(n:Int):Prop:=Rk.Ok x/\Rk.R x=n
def SortedTo(xs:Array Keyed)(k:Nat):Prop:=∀i j,i<=j->j<k->K xs i<=K xs j
def IntKeys(xs:Array Keyed):Prop:=∀x,x∈xs.toList->Rk.Ok x
structure SBase(a₀:Array Keyed)(st:je):Prop where
 perm:(arrOf st).Perm a₀
 kind:kindOf st=kd0
 failed:Jm st=none
 pend:sW st=#[]
theorem SBase.size{a₀:Array Keyed}{st:je}(h:SBase a₀ st):(arrOf st).size=a₀.size:=h.perm.size_eq
theorem K_congr(h:xs[i]? = ys[j]?):K xs i=K ys j:=by unfold K;rw[h]
theorem K_bubble{xs:Array Keyed}(hs:src<xs.size)(hd:d<=src)(k:Nat):
  K (bubble xs src d) k=if k=src-d then K xs src else if src-d<k/\k<=src then K xs (k-1)else K xs k:=by
 have e:=al0 hs d hd k;split at e
 ·rename_i h;rw[mI h];exact K_congr e
 ·rename_i h;rw[mB h];split at e
  ·rename_i h';rw[mI h'];exact K_congr e
  ·rename_i h';rw[mB h'];exact K_congr e
theorem K_mirror{xs:Array Keyed}(hj:j<=xs.size)(k:Nat):K (DG xs i j ((j-i) / 2)) k=if i<=k/\k<j then K xs (i+j-1-k)else K xs k:=by
 have e:=Ql (i:=i) hj k;split at e
 ·rename_i h;rw[mI h];exact K_congr e
 ·rename_i h;rw[mB h];exact K_congr e
theorem K_mirror_equal{xs:Array Keyed}(hj:j<=xs.size)(heq:∀k,i<=k->k<j->K xs k=K xs (j-1))(k:Nat):K (DG xs i j ((j-i) / 2)) k=K xs k:=by
 rw[K_mirror hj];split
 ·rw[heq _ tb_g% tb_g%,heq k tb_g% tb_g%]
 ·rfl
section
variable{prog:aN}{w:World}{A:aU}{E:Value->Shared->Prop}{s:Shared}[Rl prog w A E s]
theorem auP{st:je}{a b:Int}{x y:Keyed}{Q:Option Bool->je->Prop}(hk:kindOf st=kd0)(h:Q (some (decide (a<b))) st)(hx:Is x a:=by assumption)(hy:Is y b:=by assumption):
  wpS (model prog w) A E s (lt' x y) Q st:=Rl.lt hk hx.1 hy.1 (by rwa[hx.2,hy.2])
end
def Srt(xs:Array Keyed)(a b:Nat):Prop:=∀i j,a<=i->i<=j->j<b->K xs i<=K xs j
structure Within(xs ys:Array Keyed)(a b:Nat):Prop where
 perm:ys.Perm xs
 out:∀i,i<a\/b<=i->ys[i]? = xs[i]?
theorem Within.refl(xs:Array Keyed)(a b:Nat):Within xs xs a b:=#[afq _,fun _ _=>rfl]
theorem Within.trans(h:Within xs ys a b)(h':Within ys zs a b):Within xs zs a b:=#[h'.perm.trans h.perm,fun i hi=>(h'.out i hi).trans (h.out i hi)]
theorem anI(h0:IntKeys xs)(hi:i<xs.size):∃(t:Keyed) (_:Is t (K xs i)),xs[i]? = some t:=by
 have e:xs[i]? = some xs[i]:=getElem?_pos _ i hi;show#[xs[i],#[h0 xs[i] (by simp),?_],e];unfold K;rw[e]
theorem Gm{xs ys:Array Keyed}(h:IntKeys xs)(p:ys.Perm xs):IntKeys ys:=fun q hq=>h q ((alN.mp p).mem_iff.mp hq)
section
variable{prog:aN}{w:World}{A:aU}{E:Value->Shared->Prop}{s:Shared}[Rl prog w A E s]
theorem JM{st:je}{i j:Nat}{Q:Option Bool->je->Prop}(hk:kindOf st=kd0)(h0:IntKeys (arrOf st))(hi:i<(arrOf st).size)(hj:j<(arrOf st).size)
  (h:Q (some (decide (K (arrOf st) i<K (arrOf st) j))) st):wpS (model prog w) A E s (ltAt' i j) Q st:=by
 obtain⟨t,p,e1⟩:=anI h0 hi;obtain⟨u,q,e2⟩:=anI h0 hj;rw[ltAt'_eq];refine dZ (Jo ?_);show wpS _ _ _ _ (do let x <-elem' (arrOf st) i;let y <-elem' (arrOf st) j;lt' x y) Q st;rw[elem'_eq,elem'_eq,e1,e2];refine dZ (dM (dZ (dM ?_)));exact auP hk h
theorem anJ{lo n ok:Nat}{st:je}{Q:Bool->je->Prop}(hk:kindOf st=kd0)(h0:IntKeys (arrOf st))(hz:lo+n<=(arrOf st).size)(hok:ok<=n)(hs:Srt (arrOf st) lo (lo+ok))
  (h:∀ys,Within (arrOf st) ys lo (lo+n)->Srt ys lo (lo+n)->Q true (cT st ys)):wpS (model prog w) A E s (binarySort' lo n ok) Q st:=by
 have hs1:Srt (arrOf st) lo (lo+max ok 1):=fun i j h1 h2 h3=>by
  by_cases e:j<lo+ok
  ·exact hs i j h1 h2 e
  ·have:i=j:=by lia
   rw[this];exact cC _
 refine dZ (Dz (Dw (I:=fun k c st'=>c=(none,())/\∃ ys,st'=cT st ys/\Within (arrOf st) ys lo (lo+n)/\Srt ys lo (lo+k))
  (Q:=fun c st'=>c=(none,())/\∃ ys,st'=cT st ys/\Within (arrOf st) ys lo (lo+n)/\Srt ys lo (lo+n)) ?_ ?_ #[rfl,arrOf st,rfl,Within.refl _ _ _,hs1]) ?_)
 ·rintro k c st' hk1 hk2 ⟨rfl,ys,rfl,hw,hsr⟩;have sz:ys.size=(arrOf st).size:=hw.perm.size_eq;have hi0:IntKeys ys:=Gm h0 hw.perm;dsimp only;refine dZ (Dz (Dw (I:=fun x c st'=>st'=cT st ys/\∃ l r,c=(none,l,r)/\l<=r/\r<=k/\r-l<=k-x/\(∀ i,i<l->K ys (lo+i)<=K ys (lo+k))/\∀ i,r<=i->i<k->K ys (lo+k)<K ys (lo+i))
   (Q:=fun c st'=>st'=cT st ys/\∃ l r,c=(none,l,r)/\l=r/\r<=k/\(∀ i,i<l->K ys (lo+i)<=K ys (lo+k))/\∀ i,r<=i->i<k->K ys (lo+k)<K ys (lo+i)) ?_ ?_ #[rfl,0,k,rfl,cg _,aK _,by lia,fun i hi=>by lia,fun i h1 h2=>by lia]) ?_)
  ·rintro x c st' _ hx ⟨rfl,l,r,rfl,g1,g2,g3,g4,g5⟩;dsimp only;by_cases hge:l>=r
   ·rw[mI hge];exact dM #[rfl,l,r,rfl,by lia,g2,g4,g5]
   ·rw[mB hge];refine dZ (JM (st:=cT st ys) hk hi0 (by show lo+k<ys.size;lia) (by show lo+(l+r) / 2<ys.size;lia) ?_);dsimp only;show wpS _ _ _ _ (if decide (K ys (lo+k)<K ys (lo+(l+r) / 2))=true then _ else _) _ _;by_cases hl:K ys (lo+k)<K ys (lo+(l+r) / 2)
    ·rw[mI (mP hl)];refine dM #[rfl,l,(l+r) / 2,rfl,by lia,by lia,by lia,g4,fun i h1 h2=>?_];exact Int.lt_of_lt_of_le hl (hsr (lo+(l+r) / 2) (lo+i) tb_g% tb_g% tb_g%)
    ·rw[mB (by simpa using hl)];refine dM #[rfl,(l+r) / 2+1,r,rfl,by lia,g2,by lia,fun i h1=>?_,g5];exact Dt (hsr (lo+i) (lo+(l+r) / 2) tb_g% tb_g% tb_g%) (aeR.mp hl)
  ·rintro c st' ⟨rfl,l,r,rfl,g1,g2,g3,g4,g5⟩;show#[rfl,l,r,rfl,by lia,g2,g4,g5]
  ·rintro c st' ⟨rfl,l,r,rfl,rfl,g2,g4,g5⟩;dsimp only;show wpS _ _ _ _ (moveDown' (lo+k) (lo+l) >>= _) _ _;rw[moveDown'_eq];refine dZ (Dy (dM #[rfl,bubble ys (lo+k) (lo+k-(lo+l)),rfl,hw.trans #[bubble_perm _ _ _,fun i hi=>?_],fun i j h1 h2 h3=>?_]))
   ·rw[al0 tb_g% _ tb_g%,mB tb_g%,mB tb_g%]
   ·rw[K_bubble tb_g% tb_g%,K_bubble tb_g% tb_g%];have e:lo+k-(lo+k-(lo+l))=lo+l:=by lia
    rw[e];by_cases a1:i=lo+l
    ·rw[mI a1];by_cases b1:j=lo+l
     ·rw[mI b1];exact cC _
     ·rw[mB b1,mI tb_g%];have:=g5 (j-1-lo) tb_g% tb_g%;rw[show lo+(j-1-lo)=j-1 by lia]at this;exact YZ this
    ·rw[mB a1];by_cases a2:lo+l<i/\i<=lo+k
     ·rw[mI a2,mB tb_g%,mI tb_g%];exact hsr (i-1) (j-1) tb_g% tb_g% tb_g%
     ·rw[mB a2];by_cases b1:j=lo+l
      ·rw[mI b1];have:=g4 (i-lo) tb_g%;rwa[show lo+(i-lo)=i by lia]at this
      ·rw[mB b1];by_cases b2:lo+l<j/\j<=lo+k
       ·rw[mI b2];exact hsr i (j-1) tb_g% tb_g% tb_g%
       ·rw[mB b2];exact hsr i j tb_g% tb_g% tb_g%
 ·rintro c st' ⟨rfl,ys,rfl,hw,hsr⟩;show#[rfl,ys,rfl,hw,?_];by_cases hn:n=0
  ·intro i j h1 h2 h3;lia
  ·rwa[show max (max ok 1) n=n by lia]at hsr
 ·rintro c st' ⟨rfl,ys,rfl,hw,hsr⟩;exact dM (h ys hw hsr)
theorem aqj{lo nrem:Nat}{st:je}{Q:Option Nat->je->Prop}(hk:kindOf st=kd0)(h0:IntKeys (arrOf st))(hz:lo+nrem<=(arrOf st).size)(h1:1<=nrem)
  (h:∀n ys,1<=n->n<=nrem->(∀q,q<=nrem->Srt (arrOf st) lo (lo+q)->q<=n)->Within (arrOf st) ys lo (lo+nrem)->Srt ys lo (lo+n)->Q (some n) (cT st ys)):wpS (model prog w) A E s (countRun' lo nrem) Q st:=by
 refine dZ (Dz (Dw (I:=fun x c st'=>st'=st/\c=(none,x)/\Srt (arrOf st) lo (lo+x))
  (Q:=fun c st'=>st'=st/\∃ n,c=(none,n)/\1<=n/\n<=nrem/\Srt (arrOf st) lo (lo+n)/\(n<nrem->K (arrOf st) (lo+n)<K (arrOf st) (lo+n-1))) ?_ ?_ #[rfl,rfl,fun i j g1 g2 g3=>by
   have:i=j:=by lia
   rw [this];exact cC _]) ?_)
 ·rintro x c st' hx1 hx2 ⟨rfl,rfl,hs⟩;dsimp only;refine dZ (JM hk h0 tb_g% tb_g% ?_);dsimp only;by_cases hl:K (arrOf st') (lo+x)<K (arrOf st') (lo+x-1)
  ·rw[mI (mP hl)];exact dM #[rfl,x,rfl,hx1,by lia,hs,fun _=>hl]
  ·rw[mB (by simpa using hl)];refine dM #[rfl,rfl,fun i j g1 g2 g3=>?_];by_cases e:j<lo+x
   ·exact hs i j g1 g2 e
   ·have ej:j=lo+x:=by lia
    subst ej;by_cases e2:i=lo+x
    ·rw[e2];exact cC _
    ·exact Dt (hs i (lo+x-1) g1 tb_g% tb_g%) (aeR.mp hl)
 ·rintro c st' ⟨rfl,rfl,hs⟩;rw[show max 1 nrem=nrem by lia]at hs ⊢;show#[rfl,nrem,rfl,h1,aK _,hs,fun z=>mM z (oN _)]
 ·rintro c st' ⟨rfl,n,rfl,n1,n2,hs,hlt⟩
  k_dat (r0,hr0) "a"
  subst hr0
  k_dat (n0,hn0) "a"
  subst hn0;have hq0:∀q,q<=nrem->Srt (arrOf st') lo (lo+q)->q<=n0:=fun q g1 g2=>aeG.mp fun z=>by
   have:=hlt tb_g%;have:=g2 (lo+n0-1) (lo+n0) tb_g% tb_g% tb_g%;lia
  show wpS _ _ _ _ (if(n0 == nrem)=true then _ else _) Q st';by_cases hn:n0=nrem
  ·rw[mI (by simpa using hn)];exact dM (h n0 (arrOf st') n1 n2 hq0 (Within.refl _ _ _) hs)
  rw[mB (by simpa using hn)];have hlt':=hlt tb_g%
  k_dat (jp,hjp) "a"
  have key:∀(u:PUnit)(ys:Array Keyed),Within (arrOf st') ys lo (lo+nrem)->(∀i,lo<=i->i<lo+n0->K ys i=K ys (lo+n0-1))->K ys (lo+n0)<K ys (lo+n0-1)->wpS (model prog w) A E s (jp u) Q (cT st' ys):=by
   intro u ys hw heq hless;rw[hjp];refine dZ (ae9 (pK #[rfl,?_]))
   k_dat (n,hn') "a"
   k_dat (neq,hneq) "a"
   subst hneq;refine dZ (Dz (Dw (I:=fun x c st2=>∃ zs q,c=(none,x,q)/\st2=cT st' zs/\Within (arrOf st') zs lo (lo+nrem)/\q+1<x/\(∀ i j,lo<=i->i<=j->j<lo+x->K zs j<=K zs i)/\(∀ i,lo+x-(q+1)<=i->i<lo+x->K zs i=K zs (lo+x-1)))
    (Q:=fun c st2=>∃ zs x q,c=(none,x,q)/\n<=x/\x<=nrem/\st2=cT st' zs/\Within (arrOf st') zs lo (lo+nrem)/\q+1<x/\(∀ i j,lo<=i->i<=j->j<lo+x->K zs j<=K zs i)/\(∀ i,lo+x-(q+1)<=i->i<lo+x->K zs i=K zs (lo+x-1))) ?_ ?_ ?_) ?_)
   ·rintro x c st2 hx1 hx2 ⟨zs,q,rfl,rfl,w2,q1,q2,q3⟩;have sz:zs.size=(arrOf st').size:=w2.perm.size_eq;have hi0:IntKeys zs:=Gm h0 w2.perm;dsimp only;refine dZ (JM (st:=cT st' zs) hk hi0 (by show lo+x<zs.size;lia) (by show lo+x-1<zs.size;lia) ?_);dsimp only;show wpS _ _ _ _ (if decide (K zs (lo+x)<K zs (lo+x-1))=true then _ else _) _ _;by_cases hl:K zs (lo+x)<K zs (lo+x-1)
    ·rw[mI (mP hl)];have ext:∀vs:Array Keyed,(∀i,K vs i=K zs i)->(∀i j,lo<=i->i<=j->j<lo+(x+1)->K vs j<=K vs i):=fun vs hv i j g1 g2 g3=>by
      rw[hv,hv];by_cases e:j<lo+x
      ·exact q2 i j g1 g2 e
      ·have ej:j=lo+x:=by lia
       subst ej;by_cases e2:i=lo+x
       ·rw[e2];exact cC _
       ·exact Dt (YZ hl) (q2 i (lo+x-1) g1 tb_g% tb_g%)
     have one:∀vs:Array Keyed,∀i,lo+(x+1)-(0+1)<=i->i<lo+(x+1)->K vs i=K vs (lo+(x+1)-1):=fun vs i g1 g2=>by
      have:i=lo+(x+1)-1:=by lia
      rw[this]
     by_cases hq:q>0
     ·rw[mI hq];have me:=K_mirror_equal (xs:=zs) (i:=lo+x-(q+1)) (j:=lo+x) tb_g% (fun k g1 g2=>q3 k g1 g2);show wpS _ _ _ _ (Zf (lo+x-(q+1)) (lo+x) >>= _) _ _;rw[Zb];refine dZ (Dy (dM #[DG zs (lo+x-(q+1)) (lo+x) ((lo+x-(lo+x-(q+1))) / 2),0,rfl,rfl,w2.trans #[Zk _ _ _ _,fun i hi=>?_],by lia,ext _ me,one _]));rw[Ql tb_g%,mB tb_g%]
     ·rw[mB hq];exact dM #[zs,0,rfl,rfl,w2,by lia,ext zs (fun _=>rfl),one zs]
    ·rw[mB (by simpa using hl)];refine dZ (JM (st:=cT st' zs) hk hi0 (by show lo+x-1<zs.size;lia) (by show lo+x<zs.size;lia) ?_);dsimp only;show wpS _ _ _ _ (if decide (K zs (lo+x-1)<K zs (lo+x))=true then _ else _) _ _;by_cases hl2:K zs (lo+x-1)<K zs (lo+x)
     ·rw[mI (mP hl2)];exact dM #[zs,x,q,rfl,hx1,by lia,rfl,w2,q1,q2,q3]
     ·rw[mB (by simpa using hl2)];have heq2:K zs (lo+x)=K zs (lo+x-1):=by lia
      refine dM #[zs,q+1,rfl,rfl,w2,by lia,fun i j g1 g2 g3=>?_,fun i g1 g2=>?_]
      ·by_cases e:j<lo+x
       ·exact q2 i j g1 g2 e
       ·have ej:j=lo+x:=by lia
        subst ej;by_cases e2:i=lo+x
        ·rw[e2];exact cC _
        ·rw[heq2];exact q2 i (lo+x-1) g1 tb_g% tb_g%
      ·rw[show lo+(x+1)-1=lo+x by lia];by_cases e:i=lo+x
       ·rw[e]
       ·rw[heq2];exact q3 i tb_g% tb_g%
   ·rintro c st2 ⟨zs,q,rfl,rfl,w2,q1,q2,q3⟩;have e:max n nrem=nrem:=by lia
    rw[e]at q1 q2 q3 ⊢;show#[zs,nrem,q,rfl,by lia,aK _,rfl,w2,q1,q2,q3]
   ·show#[ys,0,rfl,rfl,hw,by lia,fun i j g1 g2 g3=>?_,fun i g1 g2=>?_]
    ·subst hn';by_cases e:j<lo+n0
     ·rw[heq i g1 tb_g%,heq j tb_g% e];exact cC _
     ·have ej:j=lo+n0:=by lia
      subst ej;by_cases e2:i=lo+n0
      ·rw[e2];exact cC _
      ·rw[heq i g1 tb_g%];exact YZ hless
    ·have:i=lo+n-1:=by lia
     rw[this]
   ·rintro c st2 ⟨zs,x,q,rfl,hx1,hx2,rfl,w2,q1,q2,q3⟩
    k_dat (r2,hr2) "a"
    subst hr2
    k_dat (s2,hs2) "a"
    subst hs2
    k_dat (n2',hn2') "a"
    have hn3:x=n2':=hn2'.symm;subst hn3
    k_dat (neq2,hneq2) "a"
    have hn4:q=neq2:=hneq2.symm;subst hn4
    try dsimp(config:={ zeta:=false }) only
    k_dat (jp2,hjp2) "a"
    have fin:∀(u:PUnit)(vs:Array Keyed),Within (arrOf st') vs lo (lo+nrem)->(∀i j,lo<=i->i<=j->j<lo+x->K vs j<=K vs i)->wpS (model prog w) A E s (jp2 u) Q (cT st' vs):=by
     intro u vs w3 dec;rw[hjp2];have sz:vs.size=(arrOf st').size:=w3.perm.size_eq;show wpS _ _ _ _ (Zf lo (lo+x) >>= _) _ _;rw[Zb];refine dZ (Dy ?_);have w4:Within (arrOf st') (DG vs lo (lo+x) ((lo+x-lo) / 2)) lo (lo+nrem):=w3.trans #[Zk _ _ _ _,fun i hi=>by rw[Ql tb_g%,mB tb_g%]];have s4:Srt (DG vs lo (lo+x) ((lo+x-lo) / 2)) lo (lo+x):=fun i j g1 g2 g3=>by
      rw[K_mirror tb_g%,K_mirror tb_g%,mI tb_g%,mI tb_g%];exact dec _ _ tb_g% tb_g% tb_g%
     show wpS _ _ _ _ _ Q (cT st' (DG vs lo (lo+x) ((lo+x-lo) / 2)));generalize DG vs lo (lo+x) ((lo+x-lo) / 2)=us at w4 s4 ⊢;have sz4:us.size=(arrOf st').size:=w4.perm.size_eq;have hi4:IntKeys us:=Gm h0 w4.perm;refine dZ (Dz (Dw (I:=fun y c st3=>st3=cT st' us/\c=(none,y)/\Srt us lo (lo+y))
      (Q:=fun c st3=>st3=cT st' us/\∃ m,c=(none,m)/\x<=m/\m<=nrem/\Srt us lo (lo+m)) ?_ ?_ #[rfl,rfl,s4]) ?_)
     ·rintro y c st3 hy1 hy2 ⟨rfl,rfl,hs5⟩;dsimp only;refine dZ (JM (st:=cT st' us) hk hi4 (by show lo+y<us.size;lia) (by show lo+y-1<us.size;lia) ?_);dsimp only;show wpS _ _ _ _ (if decide (K us (lo+y)<K us (lo+y-1))=true then _ else _) _ _;by_cases hl:K us (lo+y)<K us (lo+y-1)
      ·rw[mI (mP hl)];exact dM #[rfl,y,rfl,by lia,by lia,hs5]
      ·rw[mB (by simpa using hl)];refine dM #[rfl,rfl,fun i j g1 g2 g3=>?_];by_cases e:j<lo+y
       ·exact hs5 i j g1 g2 e
       ·have ej:j=lo+y:=by lia
        subst ej;by_cases e2:i=lo+y
        ·rw[e2];exact cC _
        ·exact Dt (hs5 i (lo+y-1) g1 tb_g% tb_g%) (aeR.mp hl)
     ·rintro c st3 ⟨rfl,rfl,hs5⟩;rw[show max x nrem=nrem by lia]at hs5 ⊢;show#[rfl,nrem,rfl,hx2,aK _,hs5]
     ·rintro c st3 ⟨rfl,m,rfl,m1,m2,hs5⟩;exact dM (h m us tb_g% m2 (fun z g1 g2=>cW (hq0 z g1 g2) tb_g%) w4 hs5)
    have sz:zs.size=(arrOf st').size:=w2.perm.size_eq;by_cases hq:q>0
    ·rw[mI hq];have me:=K_mirror_equal (xs:=zs) (i:=lo+x-(q+1)) (j:=lo+x) tb_g% (fun k g1 g2=>q3 k g1 g2);show wpS _ _ _ _ (Zf (lo+x-(q+1)) (lo+x) >>= _) _ _;rw[Zb];refine dZ (Dy (fin _ _ (w2.trans #[Zk _ _ _ _,fun i hi=>?_]) fun i j g1 g2 g3=>?_))
     ·rw[Ql (by show lo+x<=zs.size;lia),mB tb_g%]
     ·rw[me,me];exact q2 i j g1 g2 g3
    ·rw[mB hq];exact fin _ zs w2 q2
  by_cases hn1:n0>1
  ·rw[mI hn1];refine dZ (JM hk h0 tb_g% tb_g% ?_);dsimp only;by_cases hl:K (arrOf st') lo<K (arrOf st') (lo+n0-1)
   ·rw[mI (mP hl)];exact dM (h n0 (arrOf st') n1 n2 hq0 (Within.refl _ _ _) hs)
   ·rw[mB (by simpa using hl)];have alike:∀i,lo<=i->i<lo+n0->K (arrOf st') i=K (arrOf st') (lo+n0-1):=fun i g1 g2=>by
     have a1:=hs lo i (aK _) g1 g2;have a2:=hs i (lo+n0-1) g1 tb_g% tb_g%;lia
    have me:=K_mirror_equal (xs:=arrOf st') (i:=lo) (j:=lo+n0) tb_g% alike;show wpS _ _ _ _ (Zf lo (lo+n0) >>= _) _ _;rw[Zb];refine dZ (Dy (key _ _ #[Zk _ _ _ _,fun i hi=>?_] (fun i g1 g2=>?_) ?_))
    ·rw[Ql tb_g%,mB tb_g%]
    ·rw[me,me];exact alike i g1 g2
    ·rwa[me,me]
  ·rw[mB hn1];refine key _ (arrOf st') (Within.refl _ _ _) (fun i g1 g2=>?_) hlt';rw[show i=lo+n0-1 by lia]
end
def kv(p:Keyed):Int:=Rk.R p
def Asc(l:List Keyed):Prop:=l.Pairwise fun x y=>kv x<=kv y
structure Mg(A B out ra rb:List Keyed):Prop where
 perm:(out++(ra++rb)).Perm (A++B)
 srt:Asc out
 sa:Asc ra
 sb:Asc rb
 le:∀x∈out,∀y∈ra++rb,kv x<=kv y
theorem anK(h:Asc l)(hx:∀y∈l,kv y<=kv x):Asc (l++[x]):=
 Xz.mpr #[h,akb _ _,fun a ha b hb=>by rw[bO.mp hb];exact hx a ha]
theorem Mg.pushB{A B out ra rb:List Keyed}{x:Keyed}(h:Mg A B out ra (x::rb))(hx:∀y∈ra,kv x<=kv y):Mg A B (out++[x]) ra rb where
 perm:=by
  refine List.Perm.trans ?_ h.perm;rw[iB];exact aml _ (akp (l₁:=ra) (l₂:=rb) (a:=x)).symm
 srt:=anK h.srt fun y hy=>h.le y hy x (by simp)
 sa:=h.sa
 sb:=(fW.mp h.sb).2
 le:=fun y hy z hz=>by
  rcases bH.mp hy with m|m
  ·exact h.le y m z (by rcases bH.mp hz with q|q <;> simp[q])
  ·rw[bO.mp m];rcases bH.mp hz with q|q
   ·exact hx z q
   ·exact(fW.mp h.sb).1 z q
structure Merged(A B out:List Keyed):Prop where
 perm:out.Perm (A++B)
 srt:Asc out
theorem Mg.start(ha:Asc A)(hb:Asc B)(e:B=x::rb)(hx:∀y∈A,kv x<=kv y):Mg A B [x] A rb:=by
 have h0:Mg A B [] A B:=#[asS _,List.Pairwise.nil,ha,hb,fun _ h=>(nomatch h)];rw[e]at h0;have:=h0.pushB hx;rwa[<-e]at this
section
variable{prog:aN}{w:World}{A:aU}{E:Value->Shared->Prop}{s:Shared}[Rl prog w A E s]
theorem aqk{a₀:Array Keyed}{st:je}{Q:Unit->je->Prop}(h0:IntKeys a₀)(hB:SBase a₀ st)(h2:2<=a₀.size)(few:a₀.size<64)
  (q:∀u,(arrOf u).Perm a₀->Jm u=none->SortedTo (arrOf u) a₀.size->Q () u):wpS (model prog w) A E s sortRuns' Q st:=by
 rw[sortRuns'_eq];apply dZ;apply Jo;dsimp only;have mr:minRun' a₀.size a₀.size 0=a₀.size:=by
  generalize hn:a₀.size=n at h2 few
  match n,h2 with
  |f+1,_=>rw[minRun'_succ,mI few]
 simp only[hB.size,mr];have key:∀(u:je)(zs:Array Keyed),SBase a₀ u->Within (arrOf u) zs 0 a₀.size->Srt zs 0 a₀.size ->
   (arrOf (cT u zs)).Perm a₀/\Jm (cT u zs)=none/\(sW (cT u zs))=#[]/\SortedTo (arrOf (cT u zs)) a₀.size:=fun u zs b wi so =>
  #[wi.perm.trans b.perm,b.failed,b.pend,fun i j ij hj=>so i j (cg _) ij hj]
 refine dZ (Dz (Dw (a:=0)
  (I:=fun x c u=>(x=0/\c=(none,0)/\SBase a₀ u)\/(1<=x/\c=(none,a₀.size)/\(arrOf u).Perm a₀/\Jm u=none/\(sW u).size=1/\SortedTo (arrOf u) a₀.size))
  (Q:=fun c u=>c=(none,a₀.size)/\(arrOf u).Perm a₀/\Jm u=none/\(sW u).size=1/\SortedTo (arrOf u) a₀.size) ?s1 ?s2 (.inl #[rfl,rfl,hB])) ?s3)
 case s2 =>
  rintro c u (⟨z,_,_⟩|⟨_,hc,d⟩)
  ·exact mM z tb_g%
  ·show#[hc,d]
 case s1 =>
  rintro x c u _ _ (⟨rfl,rfl,b⟩|⟨x1,rfl,d⟩)
  ·dsimp only;rw[mB tb_g%];simp only[alr,Nat.min_self,lG];have bs:=b.size;refine dZ (aqj (lo:=0) (nrem:=a₀.size) b.kind (Gm h0 b.perm) tb_g% tb_g% fun m ys m1 m2 _ wi so=>?_);rw[lG]at wi so;dsimp only;by_cases lt:m<a₀.size
   ·rw[mI lt];apply dZ;apply ae9;refine pK #[rfl,?_];have yz:ys.size=a₀.size:=wi.perm.size_eq.trans bs;refine dZ (anJ (st:=cT u ys) (lo:=0) (n:=a₀.size) (ok:=m) b.kind (Gm h0 (wi.perm.trans b.perm)) (by show _<=ys.size;lia) tb_g% (by rwa[lG]) fun zs wj sj=>?_);rw[lG]at wj sj;simp only[Bool.not_true,Dv,if_false];apply dZ;apply Jo;obtain⟨k1,k2,k3,k4⟩:=key u zs b (wi.trans wj) sj;rw[show(sW (cT (cT u ys) zs)).back? = none by rw[show sW (cT (cT u ys) zs)=#[]from k3];rfl];dsimp only;refine dZ (Dy (dM (.inr #[by lia,rfl,k1,k2,?_,k4])));show((sW (cT (cT u ys) zs)).push _).size=1;rw[Y9,show sW (cT (cT u ys) zs)=#[]from k3];rfl
   ·rw[mB lt];obtain rfl:m=a₀.size:=by lia
    apply dZ;apply Jo;obtain⟨k1,k2,k3,k4⟩:=key u ys b wi so;rw[show(sW (cT u ys)).back? = none by rw[k3];rfl];dsimp only;refine dZ (Dy (dM (.inr #[by lia,rfl,k1,k2,?_,k4])));show((sW (cT u ys)).push _).size=1;rw[Y9,k3];rfl
  ·dsimp only;rw[mI (aK a₀.size)];exact dM #[rfl,d]
 case s3 =>
  rintro c u ⟨rfl,d1,d2,d3,d4⟩;dsimp only;refine dZ (Dz (Dw (a:=0) (I:=fun _ c v=>v=u/\c=(none,())) (Q:=fun c v=>v=u/\c=(none,())) ?_ (fun _ _ z=>z) #[rfl,rfl]) ?_)
  ·rintro x c v _ _ ⟨rfl,rfl⟩;apply dZ;apply Jo;rw[mI (by rw[d3];exact aK _)];exact dM #[rfl,rfl]
  ·rintro c v ⟨rfl,rfl⟩;exact dM (q _ d1 d2 d4)
end
end
section
variable{prog:aN}{w:World}{A:aU}{E:Value->Shared->Prop}{s:Shared}
theorem K_at[Rk]{xs:Array Keyed}{i:Nat}(hi:i<xs.size):K xs i=Rk.R xs[i]:=by unfold K;rw[getElem?_pos xs i hi]
theorem auQ[Rk]{vs:List Value}{xs:Array Keyed}(hp:xs.Perm (zH vs))(hs:SortedTo xs (zH vs).size):
  (xs.map (·.2)).toList.Perm vs/\(xs.map (·.2)).toList.Pairwise fun x y=>Rk.R (x,x)<=Rk.R (y,y):=by
 have hl:xs.toList.Perm (vs.zip vs):=by rw[<-al2];exact alN.mp hp
 have hm:∀p,p∈xs.toList->p.1=p.2:=fun p h=>(al7 (hl.mem_iff.mp h)).1;rw[Array.toList_map];constructor
 ·have h1:=hl.map Prod.snd
  rwa [List.map_snd_zip (aK _)]at h1
 ·refine Cz.mpr (O1.mpr fun i j hi hj hij=>?_);have hi':i<xs.size:=by simpa using hi
  have hj':j<xs.size:=by simpa using hj
  have h1:=hs i j (gK hij) (by rwa[<-hp.size_eq]);rw[K_at hi',K_at hj']at h1;have e:∀p:Keyed,p∈xs.toList->((p.2,p.2):Keyed)=p:=fun p h=>jO (hm p h).symm rfl;rw[e _ (yS hi),e _ (yS hj)];simpa using h1
theorem aql[Rk]{a:Addr}{vs:List Value}{n:Nat}{P:Fin->Shared->Prop}(at_:s⁻¹ a=some (cX "list" vs.toArray n))(few:vs.length<=sizeLine)(f64:vs.length<64)(hok:∀v∈vs,Rk.Ok (v,v))
  (hkey:2<=vs.length->∀(s2:Shared)(Q:SortKind->Shared->Prop),(∀b o,b≠a->s⁻¹ b=some o->s2⁻¹ b=some o)->Q Rk.kd s2->wpAny (model prog w) A (keyKind' vs.toArray) Q E s2)
  (hlt:∀s2:Shared,(∀b o,b≠a->s⁻¹ b=some o->s2⁻¹ b=some o)->Rl prog w A E s2)
  (told:∀out:Array Value,out.toList.Perm vs->(out.toList.Pairwise fun x y=>Rk.R (x,x)<=Rk.R (y,y))->P (.done (.ret .none)) { s with heap:=Zm s.heap a vs out }):
  wpAny (model prog w) A (cO.«list.sort» #[[.ref a],[]]) P E s:=by
 have la:=aV at_;have len:vs.toArray.size=vs.length:=bG;obtain⟨ep,at1⟩:∃ep,(s.heap.update a (eO fun _=>#[])).get? a=some (cX "list" #[] ep):=#[_,get?_update_seq at_ (fun _=>#[])];have keep:∀b o,b≠a->s⁻¹ b=some o->(((s.heap.update a (eO fun _=>#[])).push (cX "tuple" vs.toArray 0)).push (cX "list" #[] 0)).get? b=some o:=fun b o hb e =>
  cH _ (cH _ (by rwa[ald _ _ _ _ hb]))
 have at2:(((s.heap.update a (eO fun _=>#[])).push (cX "tuple" vs.toArray 0)).push (cX "list" #[] 0)).get? a=some (cX "list" #[] ep):=cH _ (cH _ at1);rw[list_sort_plain];apply aA;apply listItems_at at_ rfl;apply aA;refine Zg at_ rfl ?_ (by rw[len];exact few) (cg _);apply aA;apply ae6 at1 rfl;apply aA;refine Yl ?_ (by simpa using few);apply aA;refine Pk ?_ (cg _);apply jD;show wpAny (model prog w) A _ P E { s with heap:=((s.heap.update a (eO fun _=>#[])).push (cX "tuple" vs.toArray 0)).push (cX "list" #[] 0) };dsimp only;have close:∀st:je,(arrOf st).Perm (zH vs)->SortedTo (arrOf st) (zH vs).size->P (.done (.ret .none)) { s with heap:=Zm s.heap a vs ((arrOf st).map (·.2)) }:=fun st p so=>by
  obtain⟨i1,i2⟩:=auQ p so;exact told _ i1 i2
 by_cases two:vs.toArray.size<2
 ·simp only[mI two];apply aA;apply aF;rw[StateT.run_pure];apply aA;apply aF;dsimp only;apply aA;apply ae6 at2 rfl;apply aA;refine Zg at2 rfl ?_ (cg _) (by rw[alR];show(zH vs).size<=_;rw[Qm];lia);simp only[bne_self_eq_false,Dv,if_false];refine aF (close (amF general' (vs.toArray.zip vs.toArray) #[] 7 none) (afq _) fun i j ij hj=>?_);rw[Qm]at hj;rw[show i=j by lia];exact cC _
 ·simp only[mB two];refine aA (hkey tb_g% _ _ keep ?_)
  haveI:=hlt { s with heap:=((s.heap.update a (eO fun _=>#[])).push (cX "tuple" vs.toArray 0)).push (cX "list" #[] 0) } keep
  have go:=aqk (prog:=prog) (w:=w) (A:=A) (E:=E) (s:={ s with heap:=((s.heap.update a (eO fun _=>#[])).push (cX "tuple" vs.toArray 0)).push (cX "list" #[] 0) })
   (a₀:=zH vs) (st:=amF Rk.kd (vs.toArray.zip vs.toArray) #[] 7 none) (Q:=fun _ st=>(arrOf st).Perm (zH vs)/\Jm st=none/\SortedTo (arrOf st) (zH vs).size)
   (fun x hx=>by
    rw [al2] at hx;obtain ⟨e1,e2⟩:=al7 hx;obtain ⟨x1,x2⟩:=x;cases e1;exact hok _ e2) #[afq _,rfl,rfl,rfl] (by rw [Qm];lia) (by rw [Qm];exact f64) fun st p1 p2 p3=>#[p1,p2,p3]
  refine aA (iw go ?_ fun _ _ e=>e);rintro⟨⟨⟩,st⟩ s2 ⟨rfl,p1,p2,p3⟩;dsimp only;apply aA;apply ae6 at2 rfl;apply aA;refine Zg at2 rfl ?_ (cg _) (by rw[alR,p1.size_eq,Qm];lia);rw[p2];simp only[bne_self_eq_false,Dv,if_false];exact aF (close st p1 p3)
def Gn (h:Heap) (l:Addr) (f:Addr->Int × Int) (M:Int):Rk:=⟨tuples' true,fun p=>match p.1 with
 | .ref a=>(f a).1*M+(f a).2
 | _=>0,fun p=>∃ a,p.1 = .ref a/\a≠l/\0<=(f a).2/\(f a).2<M/\∃ o n t1 t2,h.get? a=some o/\o.cls = .type "tuple" /\ o.data = .seq [.int (f a).1 t1,.int (f a).2 t2].toArray n⟩
theorem lex_lt{a b c d M:Int}(h1:0<=b)(h2:b<M)(h3:0<=d)(h4:d<M)(ne:a≠c):decide (a*M+b<c*M+d)=decide (a<c):=by
 rw[decide_eq_decide];constructor
 ·intro h;refine Int.lt_of_not_ge fun g=>?_;have:c+1<=a:=by lia
  have:=Fx this (show 0<=M by lia);rw[Du]at this;lia
 ·intro h;have:a+1<=c:=by lia
  have:=Fx this (show 0<=M by lia);rw[Du]at this;lia
theorem tupRl{h:Heap}{M:Int}(kp:∀b o,b≠l->h.get? b=some o->s⁻¹ b=some o):@Rl (Gn h l f M) prog w A E s:=@Rl.mk (Gn h l f M) prog w A E s fun {x y st Q} hk hx hy q=>by
 obtain⟨⟨a,e1,l1,m1,m2,ox,nx,t1,t2,gx,cx,dx⟩,⟨b,e2,l2,m3,m4,oy,ny,t3,t4,gy,cy,dy⟩⟩:=And.intro hx hy;obtain⟨x1,x2⟩:=x;obtain⟨y1,y2⟩:=y;cases e1;cases e2;replace gx:=kp _ _ l1 gx;replace gy:=kp _ _ l2 gy;have q':Q (some (decide ((f a).1*M+(f a).2<(f b).1*M+(f b).2))) st:=q;rw[lt'_eq];refine dZ (Jo ?_);rw[show kindOf st=tuples' true from hk];refine dZ (ae9 (Iz (PySem.W.kat_lt gx dx gy dy (ak8 (aeb ?_)))));by_cases c:(f a).1=(f b).1
 ·rw[show((f a).1 == (f b).1)=true from beq_iff_eq.mpr c];refine ala (ak8 (aeb ?_));by_cases d:(f a).2=(f b).2
  ·rw[show((f a).2 == (f b).2)=true from beq_iff_eq.mpr d];refine ala (PySem.W.kat_nil #[rfl,dM ?_]);rwa[c,d,xj (Int.lt_irrefl _)]at q'
  ·rw[show((f a).2 == (f b).2)=false from xk.mpr d];refine alc (PySem.W.kat_one _ _ (asx #[rfl,dM ?_]));have e:decide ((f a).1*M+(f a).2<(f b).1*M+(f b).2)=decide ((f a).2<(f b).2):=by rw[c,decide_eq_decide];lia
   rwa[e]at q'
 ·rw[show((f a).1 == (f b).1)=false from xk.mpr c];refine alc (oneLt_int #[rfl,dM ?_]);rwa[lex_lt m1 m2 m3 m4 c]at q'
theorem ahL{h h2:Heap}{M:Int}(kp:∀b o,b≠l->h.get? b=some o->h2.get? b=some o):∀{vs:List Value},(∀v∈vs,(Gn h l f M).Ok (v,v))->∃fs:List Value,PySem.W.KatTups h2 vs fs/\fs.length=vs.length/\∀v∈fs,∃n t,v=.int n t
 |[],_=>#[[],atV,rfl,fun _ h=>(nomatch h)]
 |v::vs,hv=>by
  obtain⟨fs,k1,k2,k3⟩:=ahL kp fun v m=>hv v (cF _ m);obtain⟨a,e1,l1,m1,m2,ox,nx,t1,t2,hx,cx,dx⟩:=hv v bY;cases e1;show#[.int (f a).1 t1::fs,atU (kp _ _ l1 hx) cx dx rfl k1,by rw[cD,cD,k2],fun v m=>?_]
  walk_at "m"
  ·show#[_,_,rfl]
  ·exact k3 v m
theorem anL{vs:List Value}{M:Int}(at_:s⁻¹ a=some (cX "list" vs.toArray n))(hok:∀v∈vs,(Gn s.heap a f M).Ok (v,v))(few:vs.length<=sizeLine)(f64:vs.length<64)
  (told:∀out:Array Value,out.toList.Perm vs->(out.toList.Pairwise fun x y=>(Gn s.heap a f M).R (x,x)<=(Gn s.heap a f M).R (y,y))->P (.done (.ret .none)) { s with heap:=Zm s.heap a vs out }):
  wpAny (model prog w) A (cO.«list.sort» #[[.ref a],[]]) P E s:=by
 refine @aql prog w A E s (Gn s.heap a f M) a vs n P at_ few f64 hok (fun h2 s2 Q kp q=>?_) (fun s2 kp=>tupRl kp) told;obtain⟨fs,k1,k2,k3⟩:=ahL kp hok;refine PySem.W.kat_kind (fs:=fs) (T:=.type "int") k1 tb_g% (fun v hv=>?_) tb_g% ?_
 ·obtain⟨n,t,rfl⟩:=k3 v hv;intro A' Q' E' s' _ q;exact aF q
 ·exact q
end
end Tm
namespace L2
open PySem PySem.Spec PyProof.Rows
section
variable{X:Cx}
theorem af9{A:aU}{E:Value->Shared->Prop}{s:Shared}{l:Addr}{vs:List Value}{OK:Array Value->Prop}{Q:Value->Shared->Prop}(hl:s.heap.IsList l vs.toArray)(few:vs.length<=sizeLine)
  (hsort:∀s2 a P A E,s2⁻¹ a=some (cX "list" vs.toArray 0)->(∀b o,s⁻¹ b=some o->s2⁻¹ b=some o/\b≠a)->(∀out,OK out->P (.done (.ret .none)) { s2 with heap:=Zm s2.heap a vs out })->wpAny (model X.prog X.w) A (cO.«list.sort» #[[.ref a],[]]) P E s2)
  (h:∀out,OK out->Q (.ref (~~~s+1)) { s with heap:=sortedAll s.heap vs out }):
  wpAny (model X.prog X.w) A (call (.builtin "sorted") [.ref l]) Q E s:=by
 apply afi Zj Zh Zi (ae5 _);unfold cO.«sorted»;apply aA (m:=Ys "sorted" 1 1 _);apply aF;apply aA;refine collect_list hl ?_ few;apply aA;refine Pk ?_ few;have z:((s.heap.push (cX "list" #[] 0)).update (~~~s) (eO (· ++ vs.toArray))).objs.size= ~~~s+1:=(Heap.size_update _ _ _).trans (Qn _ _);show wpAny _ _ _ _ _ { s with heap:=((s.heap.push (cX "list" #[] 0)).update (~~~s) (eO (· ++ vs.toArray))).push (cX "list" vs.toArray 0) };have at_:(((s.heap.push (cX "list" #[] 0)).update (~~~s) (eO (· ++ vs.toArray))).push (cX "list" vs.toArray 0)).get? (~~~s+1)=some (cX "list" vs.toArray 0):=z ▸ cJ _ rfl;have keep:∀b o,s⁻¹ b=some o->(((s.heap.push (cX "list" #[] 0)).update (~~~s) (eO (· ++ vs.toArray))).push (cX "list" vs.toArray 0)).get? b=some o/\b≠ ~~~s+1:=fun b o q=>by
  have hlt:b< ~~~s:=aV q;show#[?_,bJ (zx hlt)];rwa[ale _ _ _ (by rw[z];exact bJ (zx hlt)),ald _ _ _ _ (bJ hlt),ale _ _ _ (bJ hlt)]
 rw[z];apply aA;refine jD (xW Zd #[_,at_,rfl] Zc (hsort _ _ _ _ _ at_ keep fun out ok=>#[_,rfl,aF #[_,rfl,h out ok]]) (ae2 _))
def aqm:List V->Hp->VK->Prop:=fun xs H Q=>∃(a:Addr)(ts:List Addr)(f:Addr->Int × Int)(M:Int),xs=[.ref a]/\H a=some (.lst (ts.map V.ref))/\ts.length<64/\(∀t∈ts,H t=some (.tup [.int (f t).1,.int (f t).2])/\0<=(f t).2/\(f t).2<M) /\
 ∀(l:Addr)(ts':List Addr),H l=none->ts'.Perm ts->(ts'.Pairwise fun t u=>(f t).1*M+(f t).2<=(f u).1*M+(f u).2)->Q (.ref l) (upd H l (.lst (ts'.map V.ref)))
theorem Q9:∀{ts:List Addr}{us:List Value},Vals (ts.map V.ref) us->us=ts.map Value.ref
 |[],_,h=>by cases h;rfl
 |t::ts,_,h=>by
  cases h with
  |cons r1 r2=>cases r1;rw[Q9 r2];rfl
theorem Ra:∀ts:List Addr,Vals (ts.map V.ref) (ts.map Value.ref)
 |[]=>.nil
 |_::ts=>.cons rfl (Ra ts)
theorem ab7:∀{ts:List Addr}{us:List Value},(∀v∈us,v∈ts.map Value.ref)->∃ts':List Addr,us=ts'.map Value.ref
 |_,[],_=>#[[],rfl]
 |ts,u::us,h=>by
  obtain⟨t,_,e⟩:=dH.mp (h u bY);obtain⟨ts',e'⟩:=ab7 fun v m=>h v (cF _ m);show#[t::ts',by rw[<-e,e'];rfl]
theorem aga:∀{ts:List Addr},(ts.map Value.ref).map (fun v=>match v with|Value.ref a=>a|_=>0)=ts
 |[]=>rfl
 |t::ts=>by rw[cR,cR,aga]
theorem ab8:gA X (.builtin "sorted") aqm:=by
 walk_at "l"
 obtain⟨a,ts,f,M,rfl,ha,h64,ht,q⟩:=h
 walk_at "x"
 cases ru;obtain⟨its,rv,p,hz⟩:=I.list (a:=a) (xs:=ts.map V.ref) (.inl (.inl ha));have hI:=Q9 rv;subst hI;have hzl:(ts.map Value.ref).length<=sizeLine:=by rw[aD]at hz ⊢; exact hz
 have hfresh:H (~~~s+1)=none:=I.hok.fresh (jN _);have each:∀v∈ts.map Value.ref,∃a,v=.ref a/\0<=(f a).2/\(f a).2<M/\∃o n t1 t2,s⁻¹ a=some o/\o.cls=.type "tuple" /\ o.data=.seq [.int (f a).1 t1,.int (f a).2 t2].toArray n:=fun v hv=>by
  k_dat (t,mt,dH.mp,hv) "z"
  obtain⟨h1,h2,h3⟩:=ht t mt;obtain⟨itx,rx,px,_⟩:=I.tuple (a:=t) (.inl (.inl h1));obtain⟨t1,t2,rfl⟩:∃t1 t2,itx=[.int (f t).1 t1,.int (f t).2 t2]:=by
   cases rx with
   |cons r1 r2=>cases r2 with
    |cons r2 r3=>cases r3;obtain⟨t1,rfl⟩:=r1;obtain⟨t2,rfl⟩:=r2;show#[t1,t2,rfl]
  obtain⟨o,g1,g2,n,g3⟩:=px;show#[t,rfl,h2,h3,o,n,t1,t2,g1,g2,g3]
 refine af9 (vs:=ts.map Value.ref) (OK:=fun out=>out.toList.Perm (ts.map Value.ref)/\out.toList.Pairwise fun x y=>(Tm.Gn s.heap 0 f M).R (x,x)<=(Tm.Gn s.heap 0 f M).R (y,y)) p.isList hzl (fun s2 b P A E hb kp hP=>?_) fun out hout=>?_
 ·refine Tm.anL (f:=f) (M:=M) hb (fun v hv=>?_) hzl (by rwa[aD]) fun out p1 p2=>hP out #[p1,p2];obtain⟨a,e,g1,g2,o,n,t1,t2,g3,g4,g5⟩:=each v hv;show#[a,e,(kp _ _ g3).2,g1,g2,o,n,t1,t2,(kp _ _ g3).1,g4,g5]
 ·obtain⟨p1,p2⟩:=hout;obtain⟨ts',e⟩:=ab7 fun v m=>p1.mem_iff.mp m;rw[e]at p1 p2;have pp:ts'.Perm ts:=by
   have:=p1.map fun v=>match v with|Value.ref a=>a|_=>0
   rwa [aga,aga]at this
  have p3:ts'.Pairwise fun t u=>(f t).1*M+(f t).2<=(f u).1*M+(f u).2:=(Cz (f:=Value.ref)).mp p2;obtain⟨e1,he⟩:=al6 s.heap (ts.map Value.ref) out;show#[.ref (~~~s+1),_,I.laid (t':=s.toks) (fun _ _=>al4) (jN _) (show dD X.prog X.w _ _ (~~~s+1) (.lst (ts'.map V.ref))from#[?_,ts'.map Value.ref,e1,Ra ts',?_]),rfl,q _ ts' hfresh pp p3]
  ·rw[aD,pp.length_eq];rwa[aD]at hz
  ·rw[<-e];simpa using he
def fOf(H:Hp)(t:Addr):Int × Int:=match H t with
 |some (.tup [.int i,.int m])=>(i,m)
 |_=>(0,0)
def aqn:List V->Hp->VK->Prop:=fun xs H Q=>∃(a:Addr) (ps:List (Addr × (Int × Int))) (M:Int),xs=[.ref a]/\H a=some (.lst (ps.map fun p=>V.ref p.1))/\ps.length<64/\(∀p∈ps,H p.1=some (.tup [.int p.2.1,.int p.2.2])/\0<=p.2.2/\p.2.2<M) /\
 ∀(l:Addr) (ps':List (Addr × (Int × Int))),H l=none->ps'.Perm ps->(ps'.Pairwise fun p q=>p.2.1*M+p.2.2<=q.2.1*M+q.2.2)->Q (.ref l) (upd H l (.lst (ps'.map fun p=>V.ref p.1)))
theorem ab9:gA X (.builtin "sorted") aqn:=by
 walk_at "l"
 refine ab8 pins s σ H xs us Q I r ?_;obtain⟨a,ps,M,rfl,ha,h64,ht,q⟩:=h;have hf:∀p∈ps,fOf H p.1=p.2:=fun p m=>by unfold fOf;rw[(ht p m).1]
 have hps:(ps.map (·.1)).map (fun t=>(t,fOf H t))=ps:=by
  rw[dB]
  conv=>rhs;rw[<-akz ps]
  exact xU fun p m=>jO rfl (hf p m)
 show#[a,ps.map (·.1),fOf H,M,rfl,by rw[ha,dB];rfl,by rwa[aD],fun t m=>?_,fun l ts hl hp hs=>?_]
 ·k_dat (p,mp,dH.mp,m) "z"
  show H p.1=some (.tup [.int (fOf H p.1).1,.int (fOf H p.1).2])/\0<=(fOf H p.1).2/\(fOf H p.1).2<M;rw[hf p mp];exact ht p mp
 ·have:=q l (ts.map fun t=>(t,fOf H t)) hl (by have:=hp.map fun t=>(t,fOf H t);rwa [hps]at this) (Cz.mpr hs);rwa[dB]at this
end
end L2
namespace Sx
open PySem
def Ris(l:List Nat):Prop:=l.Pairwise (· < ·)
theorem Rb{xs:Array Nat}(hr:Ris xs.toList):∀f lo hi,hi-lo<=f->lo<=hi->hi<=xs.size->(∀i v,xs[i]? = some v->i<lo->v<j)->(∀i v,xs[i]? = some v->hi<=i->j<=v) ->
  Zx xs j f lo hi<=xs.size/\(∀i v,xs[i]? = some v->i<Zx xs j f lo hi->v<j)/\∀i v,xs[i]? = some v->Zx xs j f lo hi<=i->j<=v
 |0,lo,hi,h1,h2,h3,h4,h5=>by
  obtain rfl:hi=lo:=by lia
  show#[h3,h4,h5]
 |f+1,lo,hi,h1,h2,h3,h4,h5=>by
  unfold Zx;by_cases c:lo<hi
  ·rw[mI c];dsimp only;have mh:(lo+hi) / 2<xs.size:=by lia
   have em:xs[(lo+hi) / 2]? = some xs[(lo+hi) / 2]:=getElem?_pos xs _ mh;have eg:xs.getD ((lo+hi) / 2) j=xs[(lo+hi) / 2]:=by rw[Array.getD_eq_getD_getElem?,em];rfl
   have mono:∀(i k v u:Nat),xs[i]? = some v->xs[k]? = some u->i<=k->v<=u:=fun i k v u e1 e2 h=>by
    rw[<-pR]at e1 e2;obtain⟨l1,rfl⟩:=dI.mp e1;obtain⟨l2,rfl⟩:=dI.mp e2;rcases iy i k with z|z
    ·exact gK (O1.mp hr i k l1 l2 z)
    ·obtain rfl:i=k:=by lia
     exact aK _
   rw[eg];by_cases d:xs[(lo+hi) / 2]<j
   ·rw[mI d];refine Rb hr f _ hi tb_g% tb_g% h3 (fun i v e g=>?_) h5;have:=mono i _ v _ e em tb_g%;lia
   ·rw[mB d];refine Rb hr f lo _ tb_g% tb_g% tb_g% h4 fun i v e g=>?_;have:=mono _ i _ v em e g;lia
  ·rw[mB c];obtain rfl:hi=lo:=by lia
   show#[h3,h4,h5]
theorem Gp{xs:Array Nat}(hr:Ris xs.toList)(j:Nat):
  jj xs j<=xs.size/\(∀i v,xs[i]? = some v->i<jj xs j->v<j)/\∀i v,xs[i]? = some v->jj xs j<=i->j<=v:=
 Rb hr _ 0 _ tb_g% (cg _) (aK _) (fun _ _ _ h=>mM h (aln _)) fun i v e h=>by
  obtain⟨l,_⟩:=aeX.mp e;lia
theorem agb{xs:Array Nat}(hr:Ris xs.toList):jj xs 0=0:=by
 obtain⟨a,b,c⟩:=Gp hr 0;rcases Jg (jj xs 0)with z|z
 ·exact z
 ·have l:0<xs.size:=by lia
  exact mM (b 0 _ (getElem?_pos xs 0 l) z) (aln _)
theorem agc{xs:Array Nat}(hr:Ris xs.toList)(e:xs[i]? = some v):jj xs (v+1)=i+1:=by
 obtain⟨a,b,c⟩:=Gp hr (v+1);obtain⟨l,e'⟩:=aeX.mp e;have strict:∀(k u:Nat),xs[k]? = some u->i<k->v<u:=fun k u e2 h=>by
  have e1:=e;rw[<-pR]at e1 e2;obtain⟨l1,rfl⟩:=dI.mp e1;obtain⟨l2,rfl⟩:=dI.mp e2;exact O1.mp hr i k l1 l2 h
 rcases alj (jj xs (v+1)) (i+1)with z|z|z
 ·have:=c i v e tb_g%;lia
 ·exact z
 ·have l2:i+1<xs.size:=by lia
  have e2:=getElem?_pos xs (i+1) l2;have:=b (i+1) _ e2 z;have:=strict (i+1) _ e2 tb_g%;lia
structure Tk(t:eY)(n:Nat)(ld:Bool):Prop where
 n:t.place.size=n
 r:Ris t.place.toList
 d:t.dummies=#[]
 l:t.led=ld
theorem agd{ld:Bool}(h:Tk t n ld)(e:t.slot j=.empty):j∉t.place.toList:=fun m=>by
 obtain⟨i,l,q⟩:=XC.mp m;have e1:t.place[i]? = some j:=by rw[<-pR,eE l,q]
 obtain⟨a,b,c⟩:=Gp h.r j;have ge:jj t.place j<=i:=aeE fun z=>oN _ (b i j e1 z);have eq:jj t.place j=i:=by
  rcases iy (jj t.place j) i with z|z
  ·have l3:i<t.place.size:=by simpa using l
   have l2:jj t.place j<t.place.size:=by lia
   have c1:=c _ _ (getElem?_pos t.place _ l2) (aK _);have:=O1.mp h.r (jj t.place j) i (by simpa using l2) l z;rw[q]at this;have c2:j<=t.place.toList[jj t.place j]'(by simpa using l2):=by simpa using c1
   lia
  ·lia
 unfold al8 at e;dsimp only at e;rw[eq,e1]at e;simp at e
theorem UG{ld:Bool}(h:Tk t n ld):t.slot j≠.dummy:=fun e=>by
 unfold al8 at e;dsimp only at e;split at e
 ·cases e
 ·rw[h.d]at e;have hs:Zn #[] j=false:=by unfold Zn;simp
  rw[hs]at e;simp at e
theorem acd{ld:Bool}(h:Tk t n ld):∀f p j d,p.dummy=none->amu t g hh f p=some (.empty j d)->d=none/\t.slot j=.empty
 |0,_,_,_,_,e=>by cases e
 |f+1,p,j,d,hp,e=>by
  unfold amu at e;have adv:(t.advance p).dummy=none:=by
   unfold asG;split
   ·exact hp
   ·exact hp
  cases hs:t.slot p.j with
  |empty =>
   rw[hs]at e;simp only[aeI,atL]at e;obtain⟨rfl,rfl⟩:=e;show#[hp,hs]
  |dummy=>exact mM hs (UG h)
  |live i =>
   rw[hs]at e;dsimp only at e;split at e
   ·cases e
   ·exact acd h f _ j d adv e
theorem aqo{ld:Bool}(h:Tk t n ld)(e:t.freeSlot hh=some (slot,wd)):slot∉t.place.toList:=by
 unfold asC at e;split at e
 ·rename_i j d hq;obtain⟨rfl,q⟩:=acd h _ _ j d (by unfold asz;rfl) hq;simp only[aeU,Option.isSome_none,aeI,afr]at e;rw[<-e.1];exact agd h q
 ·cases e
theorem aqp{xs:Array Nat}(hr:Ris xs.toList)(nj:j∉xs.toList):Ris (asD xs (jj xs j) j).toList:=by
 obtain⟨a,b,c⟩:=Gp hr j;rw[asy];unfold Ris at hr ⊢;rw[Xz];have e:xs.toList=xs.toList.take (jj xs j)++xs.toList.drop (jj xs j):=(Xw _ _).symm;have lo:∀v∈xs.toList.take (jj xs j),v<j:=fun v m=>by
  obtain⟨i,l,q⟩:=XC.mp m;rw[eX]at l;rw[List.getElem_take]at q;exact b i v (by rw[<-pR,eE tb_g%,q]) tb_g%
 have hi:∀v∈xs.toList.drop (jj xs j),j<v:=fun v m=>by
  have m':v∈xs.toList:=XD m;obtain⟨i,l,q⟩:=XC.mp m;rw[List.getElem_drop]at q;rw[O5]at l;have:=c (jj xs j+i) v (by rw[<-pR,eE tb_g%,q]) tb_g%;rcases iy j v with z|z
  ·exact z
  ·exact mM m' (by rwa[show v=j by lia])
 show#[hr.sublist (ad0 _ _),fW.mpr #[hi,hr.sublist (List.drop_sublist _ _)],fun v m u m2=>?_];rcases aP.mp m2 with rfl|m2
 ·exact lo v m
 ·exact m7 (lo v m) (hi u m2)
theorem ai0(n:Nat):Ris (Array.range n).toList:=by
 unfold Ris;rw[Array.toList_range];exact ake
theorem wD{t:eY}(n:Nat){ld:Bool}(hl:t.led=ld):Tk (t.standIn n) n ld:=#[by unfold asH;simp,ai0 n,rfl,hl]
theorem ai1{es:Array (Int × Value)}{ld:Bool}(h:Tk t es.size ld)(hh:Int)(x:Value):Tk (PB t es hh x).2.1 (es.size+1) ld/\(PB t es hh x).1.size=es.size+1:=by
 have sz:(PB t es hh x).1.size=es.size+1:=by
  have:=(layNew_perm t es hh x).length_eq;simpa using this
 show#[?_,sz];rw[<-sz];unfold PB;split
 ·rename_i slot wd e;dsimp only;unfold asA;split
  ·rename_i hf;show#[?_,?_,?_,h.l]
   ·unfold al9 at hf;simp only[Y5,beq_iff_eq]at hf;exact hf.1
   ·exact aqp h.r (aqo h e)
   ·unfold asL;dsimp only;rw[h.d];have hs:Zn #[] slot=false:=by unfold Zn;simp
    rw[hs];rfl
  ·exact wD _ h.l
 ·have e:(es.push (hh,x)).size=es.size+1:=Y9 ..;rw[e];exact wD _ h.l
theorem anM(owner:Array (Option Nat))(m:Nat):Ris (((gY (m+1)).filterMap fun j=>(owner.getD j none).map (j,·)).map (·.1)):=by
 unfold Ris;rw[akm];refine atN _ (R:=(· < ·)) (fun a a' hlt b hb b' hb'=>?_) ake;cases h1:owner.getD a none with
 |none=>rw[h1]at hb;cases hb
 |some u =>
  cases h2:owner.getD a' none with
  |none=>rw[h2]at hb';cases hb'
  |some u' =>
   rw[h1]at hb;rw[h2]at hb';simp at hb hb';lia
theorem anN{t:eY}{ld:Bool}(hl:t.led=ld)(wanted:Nat):Tk (zp t es wanted).2.1 es.size ld/\(zp t es wanted).1.size=es.size:=by
 have sz:(zp t es wanted).1.size=es.size:=by
  have:=(akW t es wanted).length_eq;simpa using this
 show#[?_,sz];have hf:=akX t es wanted;rw[sz]at hf;unfold zp at hf ⊢;split
 ·rename_i t' order e;rw[e]at hf;dsimp only at hf ⊢;split
  ·rename_i hc;rw[mI hc]at hf;dsimp only at hf ⊢;unfold asI asK at e;cases ow:asF (asB wanted-1) (es.map (·.1))with
   |none=>rw[ow]at e;cases e
   |some owner =>
    rw[ow]at e;simp only[Option.bind_eq_bind,Option.bind_some,Option.pure_def,aeI,afr]at e;obtain⟨rfl,_⟩:=e;show#[?_,?_,rfl,hl]
    ·unfold al9 at hf;simp only[Y5,beq_iff_eq]at hf;exact hf.1
    ·exact anM owner _
  ·exact wD _ hl
 ·exact wD _ hl
theorem Rf{α:Type}{l:List α}(h:i<l.length):(l[i]::l.eraseIdx i).Perm l:=by
 rw[List.eraseIdx_eq_take_drop_succ];refine akp.symm.trans ?_;rw[List.getElem_cons_drop h,Xw]
theorem ahM(next:Nat->Nat):∀(f k:Nat)(left:List α)(out:Array α),left.length=f->(pickOrder.go next f k left out).toList.Perm (out.toList++left)
 |0,k,left,out,h=>by
  rw[BX.mp h,yU];exact .rfl
 |f+1,k,left,out,h=>by
  unfold pickOrder.go;have lt:next k % left.length<left.length:=aeH _ tb_g%;rw[eE lt];dsimp only;have ih:=ahM next f (k+1) (left.eraseIdx (next k % left.length)) (out.push left[next k % left.length]) (by rw[aj7 lt];lia);refine ih.trans ?_;rw[Y8,iB];exact aml _ (Rf lt)
theorem ai2(next:Nat->Nat)(xs:Array α):(Yv next xs).toList.Perm xs.toList:=by
 have:=ahM next xs.size 0 xs.toList #[] (by simp);simpa[Yv]using this
def iv:Value->Int
 | .int n _=>n
 |_=>0
def keys(es:Array (Int × Value)):List Int:=es.toList.map fun e=>iv e.2
def dd1(C:List Int)(x:Int):List Int:=if x∈C then C else C++[x]
def dd(ns:List Int):List Int:=ns.foldl dd1 []
theorem anO{C D:List Int}(x:Int)(h:C.Perm D):(dd1 C x).Perm (dd1 D x):=by
 unfold dd1;by_cases m:x∈C
 ·rwa[mI m,mI (h.mem_iff.mp m)]
 ·rw[mB m,mB (fun z=>m (h.mem_iff.mpr z))];exact h.append_right _
theorem aqq{ns:List Int}{i:Nat}{x:Int}(e:ns[i]? = some x):dd (ns.take (i+1))=dd1 (dd (ns.take i)) x:=by
 unfold dd;rw[jg,e,XS];rfl
theorem aqr:z∈dd1 C x↔z∈C\/z=x:=by
 unfold dd1;split
 ·rename_i h;show#[.inl,fun q=>q.elim id fun e=>e ▸ h]
 ·rw[bH,bO]
theorem Wv{C:List Int}(h:C.Nodup):(dd1 C x).Nodup:=by
 unfold dd1;split
 ·exact h
 ·rename_i n;refine Ii.mpr #[h,iu.mpr #[jc,rP],fun a m b m2 e=>?_];rw[bO]at m2;exact n (by rwa[<-m2,<-e])
theorem agf(ns:List Int):∀C:List Int,C.Nodup->(ns.foldl dd1 C).Nodup/\(∀z,z∈ns.foldl dd1 C↔z∈C\/z∈ns)/\(ns.foldl dd1 C).length<=C.length+ns.length:=by
 induction ns with
 |nil=>exact fun C h=>#[h,fun z=>by simp,by simp]
 |cons x r ih =>
  intro C h;obtain⟨a,b,c⟩:=ih (dd1 C x) (Wv h);show#[a,fun z=>?_,?_]
  ·show z∈r.foldl dd1 (dd1 C x)↔_;rw[b z,aqr,aP];constructor
   ·rintro((q|q)|q)
    ·exact .inl q
    ·exact .inr (.inl q)
    ·exact .inr (.inr q)
   ·rintro(q|q|q)
    ·exact .inl (.inl q)
    ·exact .inl (.inr q)
    ·exact .inr q
  ·show(r.foldl dd1 (dd1 C x)).length<=_;have:(dd1 C x).length<=C.length+1:=by unfold dd1;split <;> simp
   rw[cD];lia
theorem ace(ns:List Int):(dd ns).Nodup:=(agf ns [] rP).1
theorem anP:z∈dd ns↔z∈ns:=by
 rw[show dd ns=ns.foldl dd1 []from rfl,(agf ns [] rP).2.1 z];simp
theorem aag(ns:List Int):(dd ns).length<=ns.length:=by have:=(agf ns [] rP).2.2;simpa[dd]using this
section
variable{prog:aN}{w:World}{A:aU}{s:Shared}
structure d8(prog:aN)(w:World)(h:Heap)(a:Addr)(es:Array (Int × Value))(ep:Nat)(t:eY)(ld:Bool):Prop where
 o:h.get? a=some { cls:=.type "set",dict:=none,data:=.set es ep t,slots:=#[] }
 el:YB (g8 prog w) es.toList
 tk:Tk t es.size ld
 few:es.size<scanBound
 ft:t.fits es.size=true
theorem d8.keep{h h':Heap}{a:Addr}{es:Array (Int × Value)}{ep:Nat}{t:eY}{ld:Bool}(x:d8 prog w h a es ep t ld)(k:∀o,h.get? a=some o->h'.get? a=some o):d8 prog w h' a es ep t ld:=#[k _ x.o,x.el,x.tk,x.few,x.ft]
theorem d8.ty{ld:Bool}(x:d8 prog w s.heap a es ep t ld):s.TypeIs (.ref a) "set" := #[_,x.o,rfl]
theorem arS(h:(g8 prog w).is k v=true)(hs:v.scannable=true):iv v=k:=by
 have h:Jq k v=true:=h;cases v <;> simp_all [Jq,iv,Value.scannable]
theorem auR(h:YB (g8 prog w) es)(m:e∈es):(g8 prog w).is (iv e.2) e.2=true:=by
 obtain⟨⟨k,hk,_⟩,hs⟩:=h e m;rwa[arS hk hs]
theorem anQ{h:Heap}(o:h.get? a=some { cls:=.type "set",dict:=none,data:=.set es ep t,slots:=#[] })(es':Array (Int × Value))(t':eY):
  (h.update a (Zo es' t')).get? a=some { cls:=.type "set",dict:=none,data:=.set es' (ep+1) t',slots:=#[] }:=by
 have:=uq (Zo es' t') o (by rw[putSet_of es' t' rfl];rfl);rwa[putSet_of es' t' rfl]at this
theorem auS{ld:Bool}(x:d8 prog w s.heap a es ep t ld)(room:es.size+1<scanBound)
  (q:∀h' es' ep' t' b,lF a s.heap h'->d8 prog w h' a es' ep' t' ld->(keys es').Perm (dd1 (keys es) n)->Q b { s with heap:=h' }):
  wpAny (model prog w) A (ak2 a (.int n k) ((g8 prog w).hash n)) Q E s:=by
 have key:(g8 prog w).is n (.int n k)=true:=mP rfl;unfold ak2 Ym;refine jD (aA (Ip x.o rfl x.ft ?_));dsimp only;rw[byScan_of rfl x.few x.el,mI rfl];unfold setAddByScan;refine aA (aA (pK (aA (wpAny_setScan_of key x.o rfl x.ft x.el ?_))));cases hr:List.findIdx? (fun e=>(g8 prog w).is n e.2) es.toList with
 |some j =>
  dsimp only;obtain⟨hj,hp,_⟩:=List.findIdx?_eq_some_iff_getElem.mp hr;have hm:n∈keys es:=by
   have sc:=(x.el _ (yS hj)).2;exact dH.mpr #[_,yS hj,arS hp sc]
  refine aF (aF ?_);have:=q s.heap es ep t false (asQ a s.heap) x (by unfold dd1;rw[mI hm]);cases s;exact this
 |none =>
  dsimp only;have hm:n∉keys es:=fun m=>by
   obtain⟨e,me,q1⟩:=dH.mp m;have h1:=List.findIdx?_eq_none_iff.mp hr e me;have h2:=auR x.el me;rw[q1]at h2;rw[h2]at h1;cases h1
  have p1:=layNew_perm t es ((g8 prog w).hash n) (.int n k);have f1:=layNew_fits t es ((g8 prog w).hash n) (.int n k);obtain⟨k1,z1⟩:=ai1 x.tk ((g8 prog w).hash n) (.int n k);generalize PB t es ((g8 prog w).hash n) (.int n k)=L at p1 f1 k1 z1 ⊢;obtain⟨es1,t1,wd,gv⟩:=L;dsimp only at p1 f1 k1 z1 ⊢;have e1:YB (g8 prog w) es1.toList:=(x.el.push key rfl).perm (by rwa[Y8]at p1);have pk:(keys es1).Perm (dd1 (keys es) n):=by
   unfold dd1;rw[mB hm];have:=p1.map fun e=>iv e.2;rwa[Y8,aR]at this
  have S1:∀ h':Heap,h'.get? a=some { cls:=.type "set",dict:=none,data:=.set es1 (ep+1) t1,slots:=#[] }->d8 prog w h' a es1 (ep+1) t1 ld:=fun h' o=>⟨o,e1,by rw [z1];exact k1,by lia,f1⟩;have rest:wpAny (model prog w) A (Dh a es1 t1 >>= fun _=>if (!wd && t1.tooFull)=true then (match zp t1 es1 (DK es1.size) with
    | (es2,t2,gave)=>(match gave with | true=>rule "set.scan.the-table-gave-way" | false=>pure ()) >>= fun _=>Dh a es2 t2 >>= fun _=>pure (some true)) else pure (some true))
    (fun r s'=>wpAny (model prog w) A (match r with|some added=>pure added|none=>Ym a (.int n k) ((g8 prog w).hash n) 99999) Q E s') E s:=by
   refine aA (akJ x.o rfl ?_ (Ir tb_g%));have o1:=anQ x.o es1 t1;have b1:=afm s.heap a (Zo es1 t1);split
   ·have p2:=akW t1 es1 (DK es1.size);have f2:=akX t1 es1 (DK es1.size);obtain⟨k2,z2⟩:=anN (es:=es1) k1.l (DK es1.size);generalize zp t1 es1 (DK es1.size)=L2 at p2 f2 k2 z2 ⊢;obtain⟨es2,t2,gv2⟩:=L2;dsimp only at p2 f2 k2 z2 ⊢;refine aA ?_;have fin:wpAny (model prog w) A (Dh a es2 t2 >>= fun _=>pure (some true)) (fun r s'=>wpAny (model prog w) A (match r with|some added=>pure added|none=>Ym a (.int n k) ((g8 prog w).hash n) 99999) Q E s') E { s with heap:=s.heap.update a (Zo es1 t1) }:=by
     refine aA <| akJ o1 rfl (aF (aF ?_)) (Ir tb_g%);refine q _ es2 (ep+1+1) t2 true (b1.trans (afm _ a _)) #[anQ o1 es2 t2,e1.perm p2,by rwa[z2],by lia,f2] ?_;exact(show(keys es2).Perm (keys es1)from p2.map _).trans pk
    cases gv2
    ·exact aF fin
    ·exact pK fin
   ·exact aF (aF (q _ es1 (ep+1) t1 true b1 (S1 _ o1) pk))
  have go:∀ b:Bool,wpAny (model prog w) A (if b=true then hashByValue 8 (.int n k) >>= fun v=>(fun byValue=>Dh a es1 (if byValue=true then t1 else { t1 with plain:=false }) >>= fun _=>if (!wd && (if byValue=true then t1 else { t1 with plain:=false }).tooFull)=true then (match zp (if byValue=true then t1 else { t1 with plain:=false }) es1 (DK es1.size) with
    | (es2,t2,gave)=>(match gave with | true=>rule "set.scan.the-table-gave-way" | false=>pure ()) >>= fun _=>Dh a es2 t2 >>= fun _=>pure (some true)) else pure (some true)) v else pure true >>= fun v=>(fun byValue=>Dh a es1 (if byValue=true then t1 else { t1 with plain:=false }) >>= fun _=>if (!wd && (if byValue=true then t1 else { t1 with plain:=false }).tooFull)=true then (match zp (if byValue=true then t1 else { t1 with plain:=false }) es1 (DK es1.size) with
    | (es2,t2,gave)=>(match gave with | true=>rule "set.scan.the-table-gave-way" | false=>pure ()) >>= fun _=>Dh a es2 t2 >>= fun _=>pure (some true)) else pure (some true)) v)
    (fun r s'=>wpAny (model prog w) A (match r with|some added=>pure added|none=>Ym a (.int n k) ((g8 prog w).hash n) 99999) Q E s') E s:=fun b=>by
   cases b
   ·exact aA (aF rest)
   ·exact aA (vp (a:=true) rfl rest)
  cases gv
  ·exact aA (aF (go t1.plain))
  ·exact aA (pK (go t1.plain))
end
end Sx
namespace Sx
open PySem PyProof.Rows
theorem auT(h:IntsAre vs ns):∀{i:Nat}{v:Value},vs[i]? = some v->∃n t,ns[i]? = some n/\v=.int n t:=by
 induction h with
 |nil=>intro i v e;cases i <;> cases e
 |cons n t _ ih =>
  intro i v e;cases i with
  |zero=>cases e;show#[n,t,rfl,rfl]
  |succ i=>exact ih e
section
variable{A:aU}{s:Shared}
theorem anR{items:Array Value}{ld:Bool}(hh:A.in1.handled=none)(n1:S≠I)(n2:S≠l)(n3:l≠I)(hi:IntsAre items.toList ns)(few:items.size+1<scanBound):
  ∀k i s es ep t,items.size-i=k->i<=items.size->s.heap.IsListIter I l i->s.heap.IsList l items->d8 prog w s.heap S es ep t ld->(keys es).Perm (dd (ns.take i)) ->
   (∀h' tk es' ep' t',(∀b o,b≠S->b≠I->s⁻¹ b=some o->h'.get? b=some o)->d8 prog w h' S es' ep' t' ld->(keys es').Perm (dd ns)->R (.ok (.ret .none)) { s with heap:=h',toks:=tk }) ->
   fY (model prog w) A (.builtin "set.update.loop" #[[.ref S,.ref I],[]]) R s:=by
 have len:ns.length=items.size:=by rw[<-qZ,hi.length]
 have W:=ZD (prog:=prog) (w:=w) hh I l n3 items;intro k
 induction k with
 |zero =>
  intro i s es ep t hk hle it li x pk q;obtain rfl:i=items.size:=by lia
  refine pH F.entry_set_update_loop ?_;rw[q9 F.plain_set_update_loop _];show wpAny _ A.in1 (fM (.ref I) >>= _) _ _ s;refine aA (W.done s _ _ #[it,li] fun h' tk kp=>?_);show wpAny _ A.in1 (ret Value.none) _ _ _;refine aF (q h' tk es ep t (fun b o _ b2 e=>kp b o (by simpa using b2) e) (x.keep fun o e=>kp S o (by simpa using n1) e) ?_);rwa[<-len,jC]at pk
 |succ k ih =>
  intro i s es ep t hk hle it li x pk q;have lt:i<items.size:=by lia
  refine pH F.entry_set_update_loop ?_;rw[q9 F.plain_set_update_loop _];show wpAny _ A.in1 (fM (.ref I) >>= _) _ _ s;refine aA (W.item i s _ _ lt #[it,li] fun v h' tk hP st kp=>?_);obtain⟨n,t0,en,rfl⟩:=auT hi (v:=v) (by rwa[pR]);have x1:d8 prog w h' S es ep t ld:=x.keep fun o e=>kp S o (by simpa using n1) e;show wpAny _ A.in1 (Dk [Value.int n t0] (setAdd S (.int n t0)) >>= _) _ _ _;refine aA (jD ?_);unfold setAdd;refine jD (aA ((g8 prog w).pyHash (k:=n) (mP rfl) ?_));have room:es.size+1<scanBound:=by
   have h1:=pk.length_eq;have h2:=aag (ns.take i);rw[eX]at h2;have h3:(keys es).length=es.size:=by unfold keys;simp
   lia
  refine auS (s:={ s with heap:=h',toks:=tk+1 }) x1 room fun h2 es2 ep2 t2 b sb x2 p2=>?_;have Ww:∀b o,b≠S->h'.get? b=some o->h2.get? b=some o:=fun b o nb e=>by rwa[sb.2 b nb]
  refine aF #[pI F.plain_set_update_loop _,ih (i+1) _ es2 ep2 t2 tb_g% lt (st.1.at fun o e=>Ww I o (aL n1) e) (st.2.at fun o e=>Ww l o (aL n2) e) x2 ?_ fun h3 tk3 es3 ep3 t3 kp3 x3 p3=>?_]
  ·rw[aqq en];exact p2.trans (anO n pk)
  ·exact q h3 tk3 es3 ep3 t3 (fun b o b1 b2 e=>kp3 b o b1 b2 (Ww b o b1 (kp b o (by simpa using b2) e))) x3 p3
def iM(w:World):Bool:=!w.params.followText "set-order"
def agg(ld:Bool):Obj:={ cls:=.type "set",dict:=none,data:=.set #[] 0 (.fresh 0 0 ld) }
theorem aqs(a:Value)(h:Q₁ (.ref (~~~s)) { s with heap:=s.heap.push (agg (iM w)) }):
  fY (model prog w) A (.call (.builtin "set.__new__") #[[.type "set",a],[]]) (wants Q₁ E) s:=by
 refine akN ?_;show wpAny _ A.in1 (aec "set.__new__" #[[.type "set",a],[]] >>= fun _=>again (.builtin "set.__new__" #[[.type "set",a],[]])) _ _ s;refine aA (vp (F.newCall_set_1 a) (aF #[pI F.plain_set_new _,pH F.entry_set_new ?_]));rw[q9 F.plain_set_new _];unfold cO.«set.__new__» ath;have hsub:=sub_set_self;obtain⟨hp,g,d,tk,os⟩:=s;dsimp only;wp_walk;refine Iu (aF ?_);dsimp only;simp only[newObj];refine aA (wpAny_alloc (aF (aF ?_)));exact h
set_option maxHeartbeats 3200000 in
theorem anS(hh:A.handled=none)(hl:s.heap.IsList l items)(hi:IntsAre items.toList ns)(few:items.size+1<scanBound)
  (q:∀h' tk es ep t,d8 prog w h' (~~~s) es ep t (iM w)->(keys es).Perm (dd ns)->(∀b o,s⁻¹ b=some o->h'.get? b=some o)->Q (.ref (~~~s)) { s with heap:=h',toks:=tk }):
  wpAny (model prog w) A (call (.type "set") [.ref l]) Q E s:=by
 obtain⟨c,tl,hmro⟩:=F.called_set.mro;have hmade:=F.called_set.made;have hsub:=F.called_set.sub;refine Pq (akN ?_);show wpAny _ _ (callAny (.type "set") _) _ _ _;refine aF #[Code.quiet_builtin _ tb_g%,pH F.entry_type_call ?_];rw[Around.under_plain (weight_type_call_type "set" [.ref l] []) rfl];have h1:=F.called_set.notType;have h2:=F.called_set.canCreate;have hct:=F.typeCall_set_1 (.ref l)
 repeat (any_goals (first|assumption|wp_step))
 refine yZ (aqs (.ref l) (E:=E) (Q₁:=fun obj s₁=>obj=.ref (~~~s)/\s₁={ s with heap:=s.heap.push (agg (iM w)) }) #[rfl,rfl]) fun r s₁ hr=>?_;rcases r with e|fl
 ·exact hr
 cases fl with
 |ret obj =>
  obtain⟨rfl,rfl⟩:=hr;have hS:(s.heap.push (agg (iM w))).get? (~~~s)=some (agg (iM w)):=cJ _ rfl;have hT:amA { s with heap:=s.heap.push (agg (iM w)) } (.ref (~~~s)) "set" := #[_,hS,rfl];have hli:=F.called_set.init.lookup;have hbi:=F.called_set.init.bind (.ref (~~~s))
  repeat (any_goals (first|assumption|wp_step))
  refine yZ (ad6 (R:=wants (fun r s₂=>r = .none/\∃ h' tk es ep t,s₂={ s with heap:=h',toks:=tk }/\d8 prog w h' (~~~s) es ep t (iM w)/\(keys es).Perm (dd ns)/\∀ b o,s⁻¹ b=some o->h'.get? b=some o) E)
   F.called_set.init.plain F.entry_set_init (check_set_init_1 hT ?_)) fun r₂ s₂ hr₂=>?_
  ·obtain⟨ol,hol,hcl,nl,hdl⟩:=hl;obtain⟨ocls,odict,odata,oslots⟩:=ol;simp only at hcl hdl;subst hcl;subst hdl;have hlS:l< ~~~s:=aV hol;have hol':=cH (agg (iM w)) hol;unfold agg at hS hT hol' ⊢;have hsls:=F.sub_list_set;have hslf:=F.sub_list_frozenset;have hne:(Value.type "list" == Value.type "dict")=false:=by decide
   have hl1:YK (s.heap.push { cls:=.type "set",dict:=none,data:=.set #[] 0 (.fresh 0 0 (iM w)) }) l items:=#[_,hol',rfl,nl,rfl];unfold cO.«set.__init__» noKeywords atg;generalize hPI:vB=PI;wp_walk;subst hPI;refine Io hl1 ?_;refine aA (aed ?_);have z:(s.heap.push { cls:=.type "set",dict:=none,data:=.set #[] 0 (.fresh 0 0 (iM w)) }).objs.size= ~~~s+1:=pQ ..;refine anR (ld:=iM w) (by simp[hh]) (by rw[z];exact bJ (sH _)) (jM hlS) (by rw[z];exact bJ (zx hlS)) hi few (items.size-0) 0 _ #[] 0 (.fresh 0 0 (iM w)) rfl (cg _)
    #[_,cJ _ rfl,rfl,rfl] (hl1.push _) #[cH _ hS,fun e m=>by simp at m,#[rfl,List.Pairwise.nil,rfl,rfl],tb_g%,rfl] (by exact .nil) fun h' tk es ep t kp x p=>?_
   show wpAny _ _ _ _ _ _;refine aF ?_;show wpAny _ _ (ret Value.none) _ _ _;refine aF #[rfl,h',tk,es,ep,t,rfl,x,p,fun b o e=>?_];have hb:=aV e;exact kp b o (bJ hb) (by rw[z];exact bJ (zx hb)) (cH _ (cH _ e))
  ·rcases r₂ with e|fl₂
   ·exact hr₂
   cases fl₂ with
   |ret r =>
    obtain⟨rfl,h',tk,es,ep,t,rfl,x,p,kp⟩:=hr₂
    repeat (any_goals (first|assumption|wp_step))
    exact q _ _ _ _ _ x p kp
   |_=>exact hr₂.elim
 |_=>exact hr.elim
end
theorem jY:Slot "set_iterator" "__next__" "set_iterator.__next__" := .of (owner := "set_iterator") (n := "__next__") (by rw[Iw,Il];kernel_rfl) tb_g% tb_g% tb_g% (by first|exact .inl tb_g% | exact .inr tb_g%) (by rw[Yn];kernel_rfl)
theorem ahN:Slot "set_iterator" "__iter__" "set_iterator.__iter__" := .of (owner := "set_iterator") (n := "__iter__") (by rw[Iw,Il];kernel_rfl) tb_g% tb_g% tb_g% (by first|exact .inl tb_g% | exact .inr tb_g%) (by rw[Yn];kernel_rfl)
theorem Oq:vq table "set_iterator.__next__" = some cO.«set_iterator.__next__» := akM (by kernel_rfl)
theorem aqt:vq table "set_iterator.__iter__" = some cO.«dict_keyiterator.__iter__» := Yk (id' := "dict_keyiterator.__iter__") (by kernel_rfl) rfl tb_g% (by kernel_rfl)
theorem anT:vq table "set.__iter__" = some cO.«frozenset.__iter__» := Yk (id' := "frozenset.__iter__") (by kernel_rfl) rfl tb_g% (by kernel_rfl)
theorem Ot(a:Value):rY "set_iterator.__next__" #[[a],[]]:=by unfold rY;kernel_rfl
theorem aqu(a:Value):rY "set_iterator.__iter__" #[[a],[]]:=by unfold rY;kernel_rfl
section
variable{A:aU}{s:Shared}
theorem ai3{M:Model}(h0:n≠0)(q:∀i d,i<n->Q i { s with drawn:=d }):wpAny M A (choose src n) Q E s:=fun Γ p _=>by
 unfold choose;rw[Sem.wp_choose];show#[h0,q _ _ (aeH _ (Nat.pos_of_ne_zero h0))]
theorem ahO{M:Model}:∀(n:Nat)(xs:List α)(s:Shared){Q:List α->Shared->Prop},xs.length=n->(∀ys d,ys.Perm xs->Q ys { s with drawn:=d })->wpAny M A (drawOrder n xs) Q E s
 |0,xs,s,Q,h,q=>by
  obtain rfl:=BX.mp h;exact aF (q [] s.drawn .nil)
 |n+1,[],s,Q,h,q=>by cases h
 |n+1,x::xs,s,Q,h,q=>by
  show wpAny M A (choose .order (x::xs).length >>= _) Q E s;refine aA (ai3 (by rw[h];exact Nat.succ_ne_zero n) fun i d hi=>?_);rw[eE hi];refine aA (ahO n ((x::xs).eraseIdx i) _ (by rw[aj7 hi,h];rfl) fun ys d2 p=>aF (q _ d2 ?_));exact(p.cons _).trans (Rf hi)
def itO(f:Value)(i:Nat)(a:Addr)(n ep:Nat):Obj:={ cls:=.type "set_iterator",dict:=none,data:=.fields [f,.int i 0,.ref a,.int n 0,.int ep 0].toArray,slots:=#[] }
theorem ahP(o:s⁻¹ I=some (itO f i a n ep))(q:Q (.ref I) s):wpAny (model prog w) A (vB (.ref I)) Q E s:=by
 have hT:s.TypeIs (.ref I) "set_iterator" := #[_,o,rfl];refine aea hT ahN (xW ahN hT aqt ?_ (aqu _));show wpAny _ _ (ret (.ref I)) _ _ s;exact aF #[_,rfl,"set_iterator",_,hT,jY.lookup,q]
theorem ahQ(hh:A.handled=none)(q:∀h' x,(∀b o,s⁻¹ b=some o->h'.get? b=some o)->amA { s with heap:=h' } (.ref x) "StopIteration" -> E (.ref x) { s with heap:=h' }):
  wpAny (model prog w) A (newExc (.type "StopIteration") [] >>= fun e=>(raiseNew e:Sem α)) Q E s:=by
 refine aA ?_;simp only[newExc,newTuple];refine aA (yV ?_ (by size_fits));refine aA (m:=akQ _ _) (vp (a:=Value.none) (by first|rfl|(simp only[akQ];rfl)) ?_);refine yV ?_ (by size_fits);simp only[raiseNew];refine aA (wpAny_handled ?_);rw[hh];refine aA (aF (wpAny_throw (q _ _ (fun b o e=>cH _ (cH _ e)) #[_,cJ _ rfl,rfl])))
end
section
variable{prog:aN}{w:World}{A:aU}{E:Value->Shared->Prop}{s:Shared}{I a:Addr}{es:Array (Int × Value)}{ep:Nat}{t:eY}{ld:Bool}
def JN(prog:aN)(w:World)(s:Shared)(a:Addr)(sl i ep:Nat)(r:Option (Value × Nat)):Prop:=∀A E Q,Q r s->wpAny (model prog w) A (setNext a sl i ep) Q E s
theorem ai4{sl i nx:Nat}{x:Value}{Q:Option Value->Shared->Prop}(o:s⁻¹ I=some (itO (.int sl 0) i a es.size ep))(X:d8 prog w s.heap a es ep t ld)(N:JN prog w s a sl i ep (some (x,nx)))
  (q:∀h',h'.get? I=some (itO (.int nx 0) (i+1) a es.size ep)->lF I s.heap h'->Q (some x) { s with heap:=h' }):wpAny (model prog w) A (fM (.ref I)) Q E s:=by
 have hT:s.TypeIs (.ref I) "set_iterator" := #[_,o,rfl];unfold fM;refine aA (Iz (Pa (name:=aW "__next__") hT jY (xW jY hT Oq ?_ (Ot _))));unfold cO.«set_iterator.__next__»;refine aA (vp (a:=(Value.ref I,[])) rfl ?_);refine aA (Yo o rfl ?_);dsimp only;refine aA (Pb X.o rfl X.ft ?_);rw[mB (by simp)];refine aA (N _ _ _ ?_);dsimp only;refine aA (xV o (by simp) fun h1 o1 b1=>?_);refine aA (xV o1 (by simp) fun h2 o2 b2=>aF #[x,rfl,aF (q h2 ?_ (b1.trans b2))]);rw[o2];rfl
theorem ai5{sl i:Nat}{Q:Option Value->Shared->Prop}(hh:A.handled=none)(o:s⁻¹ I=some (itO (.int sl 0) i a es.size ep))(X:d8 prog w s.heap a es ep t ld)(N:JN prog w s a sl i ep none)
  (q:∀h',(∀b u,b≠I->s⁻¹ b=some u->h'.get? b=some u)->Q none { s with heap:=h' }):wpAny (model prog w) A (fM (.ref I)) Q E s:=by
 have hT:s.TypeIs (.ref I) "set_iterator" := #[_,o,rfl];unfold fM;refine aA (Iz (Pa (name:=aW "__next__") hT jY (xW jY hT Oq ?_ (Ot _))));unfold cO.«set_iterator.__next__»;refine aA (vp (a:=(Value.ref I,[])) rfl ?_);refine aA (Yo o rfl ?_);dsimp only;refine aA (Pb X.o rfl X.ft ?_);rw[mB (by simp)];refine aA (N _ _ _ ?_);dsimp only;refine aA (xV o (by simp) fun h1 o1 b1=>?_);refine ahQ (A:=A.in1) hh fun h2 x kp ty=>?_;refine aA (Ph (T := "StopIteration") (b:=true) ty aee (aF (q h2 fun b u nb e=>kp b u ?_)));rwa[b1.2 b nb]
theorem bt'(h:w.params.followText "set-order" = true):({ program:=(model prog w).prog,params:=(model prog w).w.params }:Setting).params.followText "set-order" = true:=h
theorem ai6(X:d8 prog w s.heap a es ep t ld)(bt:w.params.followText "set-order" = true)(i:Nat):JN prog w s a 0 i ep (((Yv (w.params.setOrder a ep) es)[i]?).map fun e=>(e.2,0)):=fun A E Q q=>by
 unfold setNext;refine aA (Ip X.o rfl X.ft ?_);dsimp only;unfold Yt;refine aA (aA (Iu (aF ?_)));rw[mI (bt' bt),mB (by simp)];unfold setWalk;refine aA (aA (Ip X.o rfl X.ft ?_));dsimp only;unfold Yt;refine aA (aA (Iu (aF ?_)));rw[mI (bt' bt)];exact aA (Iu (aF (aF q)))
def slotAt(t:eY):Nat->Nat
 |0=>0
 |i+1=>t.place.getD i 0+1
theorem agh(X:d8 prog w s.heap a es ep t ld)(bt:w.params.followText "set-order" = false)(hl:ld=true)(pl:(!t.plain && decide (es.size>1))=false)(hi:i<=es.size):
  JN prog w s a (slotAt t i) i ep ((es[i]?).map fun e=>(e.2,slotAt t (i+1))):=fun A E Q q=>by
 have bl:jj t.place (slotAt t i)=i:=by
  cases i with
  |zero=>exact agb X.tk.r
  |succ i =>
   have l:i<t.place.size:=by rw[X.tk.n];lia
   have e:=getElem?_pos t.place i l;show jj t.place (t.place.getD i 0+1)=i+1;rw[Array.getD_eq_getD_getElem?,e];exact agc X.tk.r e
 unfold setNext;refine aA (Ip X.o rfl X.ft ?_);dsimp only;unfold Yt;refine aA (aA (Iu (aF ?_)));rw[mB (fun z=>by have z:w.params.followText "set-order" = true:=z;rw[bt]at z;cases z)];show wpAny _ _ (if(!t.plain && decide (es.size>1))=true then _ else _) _ _ _;rw[mB (by rw[pl];decide)];refine aA (m:=if(!t.led && !es.isEmpty)=true then Pn "set:maker-not-led" else pure ()) ?_;rw[mB (by rw[X.tk.l,hl];simp)];refine aF ?_;rw[bl];refine aF ?_;rcases iy i es.size with l|l
 ·have l2:i<t.place.size:=by rwa[X.tk.n]
  rw[getElem?_pos es i l]at q ⊢;rw[getElem?_pos t.place i l2];have:slotAt t (i+1)=t.place[i]+1   := by show t.place.getD i 0+1=_;rw[Array.getD_eq_getD_getElem?,getElem?_pos t.place i l2];rfl
  simpa[this]using q
 ·rw[getElem?_neg es i tb_g%]at q ⊢;exact q
theorem anU{ord:List Value}{sl:Nat->Nat}(hh:A.handled=none)(ne:a≠I)(hn:ord.length=es.size)(N:∀(s:Shared)(i:Nat),d8 prog w s.heap a es ep t ld->i<=es.size->JN prog w s a (sl i) i ep ((ord[i]?).map fun v=>(v,sl (i+1)))):
  Walks prog w A I [I,a] [I] es.size (fun i v=>ord[i]? = some v) (fun i h=>h.get? I=some (itO (.int (sl i) 0) i a es.size ep)/\d8 prog w h a es ep t ld) where
 sub:=fun b hb=>by simp at hb;simp[hb]
 frame:=fun i h h' st kp=>#[kp I (by simp) _ st.1,st.2.keep fun o e=>kp a (by simp) o e]
 item:=fun i s Q E hi st q=>by
  have nx:=N s i st.2 (gK hi);rw[eE (by rwa[hn])]at nx;refine ai4 st.1 st.2 nx fun h' o b=>?_;have kp:∀c u,c≠I->s⁻¹ c=some u->h'.get? c=some u:=fun c u nc e=>by rwa[b.2 c nc]
  exact q _ h' s.toks (eE (by rwa[hn])) #[o,st.2.keep fun u e=>kp a u ne e] fun c u nc e=>kp c u (by simpa using nc) e
 done:=fun s Q E st q=>by
  have nx:=N s es.size st.2 (aK _);rw[Fv (by rw[hn];exact aK _)]at nx;exact ai5 hh st.1 st.2 nx fun h' kp=>q h' s.toks fun c u nc e=>kp c u (by simpa using nc) e
 self:=fun i s Q E st q=>ahP st.1 q
end
section
variable{prog:aN}{w:World}{A:aU}{E:Value->Shared->Prop}{s:Shared}{I a tp:Addr}{es:Array (Int × Value)}{ep:Nat}{t:eY}{ld:Bool}
def ordD(es:Array (Int × Value))(ps:List Nat):List Value:=ps.map fun p=>(es.getD p (0,.none)).2
theorem ai7{ps:List Nat}(h:ps.Perm (gY es.size)):(ordD es ps).Perm (es.toList.map (·.2)):=by
 refine(h.map _).trans ?_;have:(gY es.size).map (fun p=>(es.getD p (0,.none)).2)=es.toList.map (·.2):=by
  apply List.ext_getElem
  ·simp
  ·intro i h1 h2;have l:i<es.size:=by simpa using h1
   rw[akq,akq,List.getElem_range,Array.getD_eq_getD_getElem?,getElem?_pos es i l];simp
 rw[this]
def UJ(ps:List Nat):Obj:={ cls:=.type "tuple",data:=.seq (ps.map fun(i:Nat)=>iC i).toArray }
theorem agi(o:s⁻¹ I=some (itO (.ref tp) i a es.size ep))(ot:s⁻¹ tp=some (UJ ps))(X:d8 prog w s.heap a es ep t ld)
  (hp:ps[i]? = some p) (hx:es[p]? = some (h0,x)) (q:∀h',h'.get? I=some (itO (.ref tp) (i+1) a es.size ep)->lF I s.heap h'->Q (some x) { s with heap:=h' }):wpAny (model prog w) A (fM (.ref I)) Q E s:=by
 have hT:s.TypeIs (.ref I) "set_iterator" := #[_,o,rfl];unfold fM;refine aA (Iz (Pa (name:=aW "__next__") hT jY (xW jY hT Oq ?_ (Ot _))));unfold cO.«set_iterator.__next__»;refine aA (vp (a:=(Value.ref I,[])) rfl ?_);refine aA (Yo o rfl ?_);dsimp only;refine aA (Pb X.o rfl X.ft ?_);rw[mB (by simp)];refine aA (oK ot rfl ?_);dsimp only;have e1:((ps.map fun(i:Nat)=>iC i).toArray)[(i:Int).toNat]? = some (.int p 0):=by
  show((ps.map fun(i:Nat)=>iC i).toArray)[i]? = _;rw[Xx,cP,hp];rfl
 rw[e1];dsimp only;refine aA ?_;unfold setNextDrawn;refine aA (Ip X.o rfl X.ft ?_);dsimp only;rw[mB (by simp)];have e2:es[(p:Int).toNat]? = some (h0,x):=hx;rw[e2];refine aF ?_;refine aA (xV o (by simp) fun h1 o1 b1=>aF #[x,rfl,aF (q h1 ?_ b1)]);rw[o1];rfl
theorem agj{ps:List Nat}(hh:A.handled=none)(o:s⁻¹ I=some (itO (.ref tp) ps.length a es.size ep))(ot:s⁻¹ tp=some (UJ ps))(X:d8 prog w s.heap a es ep t ld)
  (q:∀h',(∀b u,b≠I->s⁻¹ b=some u->h'.get? b=some u)->Q none { s with heap:=h' }):wpAny (model prog w) A (fM (.ref I)) Q E s:=by
 have hT:s.TypeIs (.ref I) "set_iterator" := #[_,o,rfl];unfold fM;refine aA (Iz (Pa (name:=aW "__next__") hT jY (xW jY hT Oq ?_ (Ot _))));unfold cO.«set_iterator.__next__»;refine aA (vp (a:=(Value.ref I,[])) rfl ?_);refine aA (Yo o rfl ?_);dsimp only;refine aA (Pb X.o rfl X.ft ?_);rw[mB (by simp)];refine aA (oK ot rfl ?_);dsimp only;have e1:((ps.map fun(i:Nat)=>iC i).toArray)[(ps.length:Int).toNat]? = none:=by
  show((ps.map fun(i:Nat)=>iC i).toArray)[ps.length]? = _;rw[Xx,cP,Fv (aK _)];rfl
 rw[e1];dsimp only;refine aA (xV o (by simp) fun h1 o1 b1=>?_);refine aA (xV o1 (by simp) fun h2 o2 b2=>?_);refine ahQ (A:=A.in1) hh fun h3 x kp ty=>?_;refine aA (Ph (T := "StopIteration") (b:=true) ty aee (aF (q h3 fun b u nb e=>kp b u ?_)));rwa[b2.2 b nb,b1.2 b nb]
theorem agk{ps:List Nat}(hh:A.handled=none)(ne:a≠I)(nt:tp≠I)(hp:ps.Perm (gY es.size)):
  Walks prog w A I [I,a,tp] [I] es.size (fun i v=>(ordD es ps)[i]? = some v) (fun i h=>h.get? I=some (itO (.ref tp) i a es.size ep)/\h.get? tp=some (UJ ps)/\d8 prog w h a es ep t ld) where
 sub:=fun b hb=>by simp at hb;simp[hb]
 frame:=fun i h h' st kp=>#[kp I (by simp) _ st.1,kp tp (by simp) _ st.2.1,st.2.2.keep fun o e=>kp a (by simp) o e]
 item:=fun i s Q E hi st q=>by
  have hl:ps.length=es.size:=by rw[hp.length_eq,Ij]
  have lt:i<ps.length:=by lia
  have pm:ps[i]<es.size:=CN.mp (hp.mem_iff.mp (yS lt));have ex:=getElem?_pos es ps[i] pm;refine agi (h0:=es[ps[i]].1) (x:=es[ps[i]].2) st.1 st.2.1 st.2.2 (eE lt) ex fun h' o b=>?_;have kp:∀c u,c≠I->s⁻¹ c=some u->h'.get? c=some u:=fun c u nc e=>by rwa[b.2 c nc]
  refine q _ h' s.toks ?_ #[o,kp tp _ nt st.2.1,st.2.2.keep fun u e=>kp a u ne e] fun c u nc e=>kp c u (by simpa using nc) e;unfold ordD;rw[cP,eE lt];show some (es.getD ps[i] (0,.none)).2=_;rw[Array.getD_eq_getD_getElem?,ex];rfl
 done:=fun s Q E st q=>by
  have hl:ps.length=es.size:=by rw[hp.length_eq,Ij]
  exact agj hh (by rw[hl];exact st.1) st.2.1 st.2.2 fun h' kp=>q h' s.toks fun c u nc e=>kp c u (by simpa using nc) e
 self:=fun i s Q E st q=>ahP st.1 q
end
section
variable{A:aU}{s:Shared}{es:Array (Int × Value)}{t:eY}
theorem aqv(hh:A.handled=none)(X:d8 prog w s.heap a es ep t (iM w))
  (q:∀ (h':Heap) (d:Drawn) (I:Addr) (fp:List Addr) (ord:List Value) (St:Nat->Heap->Prop),ord.Perm (es.toList.map (·.2))->(∀ b o,s⁻¹ b=some o->h'.get? b=some o)-> ~~~s<=I->(∀ b∈fp,b=a\/(~~~s)<=b) ->
   (∀ B:aU,B.handled=none->Walks prog w B I fp [I] es.size (fun i v=>ord[i]? = some v) St)->St 0 h'->Q (.ref I) { s with heap:=h',drawn:=d }):wpAny (model prog w) A (vB (.ref a)) Q E s:=by
 have la:=aV X.o;refine aea X.ty F.slot_set_iter (xW F.slot_set_iter X.ty anT ?_ (F.args_set_iter_1 _));unfold cO.«frozenset.__iter__»;refine aA (vp (a:=a) rfl ?_);refine aA ?_;unfold ati;refine aA (Pb X.o rfl X.ft (aF ?_));refine aA ?_;unfold setDrawn;refine aA (Ip X.o rfl X.ft ?_);dsimp only;unfold Yt;refine aA (aA (Iu (aF (aF ?_))));show wpAny _ _ (if(!w.params.followText "set-order" && (!t.plain && decide (es.size>1)))=true then _ else _) _ _ _;have ways:∀(ord:List Value)(sl:Nat->Nat),sl 0=0->ord.Perm (es.toList.map (·.2))->(∀(s:Shared)(i:Nat),d8 prog w s.heap a es ep t (iM w)->i<=es.size->JN prog w s a (sl i) i ep ((ord[i]?).map fun v=>(v,sl (i+1)))) ->
   Q (.ref (~~~s)) { s with heap:=s.heap.push (itO (.int 0 0) 0 a es.size ep) }:=fun ord sl h0 hp N=>by
  refine q _ s.drawn (~~~s) [~~~s,a] ord (fun i h=>h.get? (~~~s)=some (itO (.int (sl i) 0) i a es.size ep)/\d8 prog w h a es ep t (iM w)) hp (fun b o e=>cH _ e) (aK _) ?_ (fun B hB=>anU hB (bJ la) (by rw[hp.length_eq];simp) N)
   #[by rw[h0];exact cJ _ rfl,X.keep fun o e=>cH _ e]
  intro b m
  walk_at "m"
  ·exact .inr (aK _)
  ·exact .inl (bO.mp m)
 have fin:∀{Q':Value->Shared->Prop},Q' (.ref (~~~s)) { s with heap:=s.heap.push (itO (.int 0 0) 0 a es.size ep) }->wpAny (model prog w) A.in1 (setEpoch a >>= fun e=>aev "set_iterator" [iC 0,iC 0,.ref a,iC es.size,iC e] >>= fun r=>ret r) (fun fin s'=>∃v,fin=.done (.ret v)/\∃T' r,s'.TypeIs v T'/\zc (.type T') "__next__" = pure (some r)/\Q' v s') E s:=fun {Q'} z=>by
  refine aA (akK X.o rfl X.ft ?_);unfold aev;refine aA (yV (aF #[_,rfl,"set_iterator",_,#[_,cJ _ rfl,rfl],jY.lookup,?_]));exact z
 cases bt:w.params.followText "set-order" with
 |true =>
  rw[mB (by simp)];refine aA (aF (fin ?_));have pp:=ai2 (w.params.setOrder a ep) es;refine ways ((Yv (w.params.setOrder a ep) es).toList.map (·.2)) (fun _=>0) rfl (pp.map _) fun s i X' _=>?_;have:=ai6 X' bt i;rwa[cP,pR,Qg]
 |false =>
  have hl:iM w=true:=by unfold iM;rw[bt];rfl
  cases pl:(!t.plain && decide (es.size>1))with
  |false =>
   rw[mB (by simp)];refine aA (aF (fin ?_));refine ways (es.toList.map (·.2)) (slotAt t) rfl .rfl fun s i X' hi=>?_;have:=agh X' bt hl pl hi;rwa[cP,pR,Qg]
  |true =>
   rw[mI (by simp)];refine aA (ahO es.size (gY es.size) _ (Ij) fun ps d hp=>aA ?_);have zl:(ps.map fun(i:Nat)=>iC i).length<=sizeLine:=by rw[aD,hp.length_eq,Ij];exact Ir X.few
   refine Yl ?_ zl;have X1:d8 prog w (s.heap.push (UJ ps)) a es ep t (iM w):=X.keep fun o e=>cH _ e;refine aA (akK (s:={ s with heap:=s.heap.push (UJ ps),drawn:=d }) X1.o rfl X1.ft ?_);unfold aev;refine aA (yV (aF #[_,rfl,"set_iterator",_,#[_,cJ _ rfl,rfl],jY.lookup,?_]));have zt:(s.heap.push (UJ ps)).objs.size= ~~~s+1:=pQ ..;refine q _ d (s.heap.push (UJ ps)).objs.size [(s.heap.push (UJ ps)).objs.size,a,~~~s] (ordD es ps) (fun i h=>h.get? (s.heap.push (UJ ps)).objs.size=some (itO (.ref (~~~s)) i a es.size ep)/\h.get? (~~~s)=some (UJ ps)/\d8 prog w h a es ep t (iM w)) (ai7 hp) (fun b o e=>cH _ (cH _ e)) (by rw[zt];exact jN _) ?_
    (fun B hB=>agk hB (by rw[zt];exact bJ (zx la)) (by rw[zt];exact bJ (sH _)) hp) #[cJ _ rfl,cH _ (cJ _ rfl),X1.keep fun o e=>cH _ e]
   intro b m
   walk_at "m"
   ·exact .inr (by rw[zt];exact jN _)
   walk_at "m"
   ·exact .inl rfl
   ·exact .inr (by rw[bO.mp m];exact aK _)
end
section
variable{A:aU}{s:Shared}{r:Addr}{es:Array (Int × Value)}{t:eY}
theorem anV(hT:s.TypeIs (.ref r) "set")(h:Q false s):wpAny (model prog w) A (Qh (.ref r)) Q E s:=by
 unfold Qh;refine aA (Iv hT F.slot_set_len.lookup ?_);generalize hid:("set.__len__" : String)=id0
 wp_delta;rw[show splitId id0=some ("set","__len__")from by subst hid;decide +kernel];subst hid
 refine aA (Ph (T := "set") (b:=true) hT (by rw[Yn];kernel_rfl) ?_);refine vo (fun hab=>mM hab tb_g%) (fun _=>?_);refine vo (fun _=>?_) (fun hab=>mM tb_g% hab);exact aA (za hT (aF h))
def Rg(acc:Array Value)(c:Nat):Obj:={ cls:=.type "list",dict:=none,data:=.seq acc c,slots:=#[] }
theorem acf(hh:A.handled=none)(X:d8 prog w s.heap r es ep t (iM w))
  (q:∀h' tk d acc,acc.Perm (es.toList.map (·.2))->(∀b o,s⁻¹ b=some o->h'.get? b=some o)->Q acc { s with heap:=h',toks:=tk,drawn:=d }):
  wpAny (model prog w) A (Px (.ref r)) Q E s:=by
 have lr:=aV X.o;have hn:=Ir X.few;unfold Px;refine aA (aed (pH F.entry_proto_collect ?_));rw[q9 F.plain_proto_collect _];show wpAny _ A.in1 (Yz [] >>= fun l=>again (.builtin "list.__iadd__" #[[l,.ref r],[]])) _ _ s;refine aA (yV ?_);refine aF #[pI F.plain_list_iadd _,pH F.entry_list_iadd ?_];rw[q9 F.plain_list_iadd _];have hS:(s.heap.push (Rg #[] 0)).get? (~~~s)=some (Rg #[] 0):=cJ _ rfl;have X1:d8 prog w (s.heap.push (Rg #[] 0)) r es ep t (iM w):=X.keep fun o e=>cH _ e;have z1:(s.heap.push (Rg #[] 0)).objs.size= ~~~s+1:=pQ ..;show wpAny _ A.in1 (xX (.ref (~~~s)) (.ref r) (.ref (~~~s))) _ _ { s with heap:=s.heap.push (Rg #[] 0) };unfold xX;refine aA (za (T := "set") (d8.ty (s:={ s with heap:=s.heap.push (Rg #[] 0) }) X1) ?_);have h1:Jk (.ref (~~~s)) (.ref r)=false:=by simp[Jk,jM lr]
 rw[mB (by rw[h1];decide)];refine aA (aqv (A:=A.in1) (s:={ s with heap:=s.heap.push (Rg #[] 0) }) hh X1 fun h' d I fp ord St hp kp hI hfp W st=>?_);have hS2:h'.get? (~~~s)=some (Rg #[] 0):=kp _ _ hS;have X2:d8 prog w h' r es ep t (iM w):=X1.keep fun o e=>kp r o e;have nI: ~~~s≠I:=by rw[z1]at hI;lia
 have nf:(~~~s)∉fp:=fun m=>by
  rcases hfp _ m with e|e
  ·exact jM lr e
  ·rw[z1]at e;lia
 have hlen:ord.length=es.size:=by rw[hp.length_eq];simp
 have key:∀(h2:Heap)(c:Nat),St 0 h2->(∀b o,b≠(~~~s)->h'.get? b=some o->h2.get? b=some o)->h2.get? (~~~s)=some (Rg #[] c) ->
   fY (model prog w) A (.builtin "list.extend.loop" #[[.ref (~~~s),.ref I,.ref (~~~s)],[]]) (fun res s'=>∃(h3:Heap)(tk:Nat)(acc:Array Value)(c':Nat),res=.ok (.ret (.ref (~~~s)))/\s'={ s with heap:=h3,toks:=tk,drawn:=d }/\acc.toList=ord/\h3.get? (~~~s)=some (Rg acc c')/\∀b o,s⁻¹ b=some o->h3.get? b=some o)
    { s with heap:=h2,drawn:=d }:=fun h2 c st2 kp2 hS3=>by
  refine akE (W A.in1 hh).toS hn (~~~s) nf (.ref (~~~s)) es.size 0 _ #[] c rfl (cg _) st2 hS3 (amE _) fun s' acc c' hm hS' hacc=>?_;obtain⟨h3,g3,d3,tk3,o3⟩:=s';have e1:g3=s.gens:=hm.gens;have e2:d3=d:=hm.drawn;have e3:o3=s.os:=hm.os;subst e1;subst e2;subst e3;show#[h3,tk3,acc,c',rfl,rfl,?_,hS',fun b o e=>hm.heap b o (fun m=>?_) (kp2 b o (bJ (aV e)) (kp b o (cH _ e)))]
  ·apply List.ext_getElem?;intro i;rw[pR];rcases iy i es.size with l|l
   ·have e:=getElem?_pos acc i (by rwa[hacc.1]);rw[hacc.2 i _ e,e]
   ·rw[getElem?_neg acc i (by rw[hacc.1];lia),Fv tb_g%]
  ·have lb:=aV e
   walk_at "m"
   ·exact oN _ lb
   ·have m:b=I:=bO.mp m;have hI: ~~~s+1<=I:=by rwa[<-z1]
    have lb:I< ~~~s:=m ▸ lb;exact mM lb (aeG.mpr (Nat.le_of_succ_le hI))
 have fin:∀(res:lC)(s':Shared),(∃(h3:Heap)(tk:Nat)(acc:Array Value)(c':Nat),res=.ok (.ret (.ref (~~~s)))/\s'={ s with heap:=h3,toks:=tk,drawn:=d }/\acc.toList=ord/\h3.get? (~~~s)=some (Rg acc c')/\∀b o,s⁻¹ b=some o->h3.get? b=some o) ->
   ∃ v,res = .ok (.ret v)/\wpAny (model prog w) A (match v with
    | .ref a=>load a >>= fun o=>match o.data with
     | .seq xs _=>pure xs.toList
     |_=>Pn "internal:collect"
    | _=>Pn "internal:collect") Q E s':=by
  rintro res s' ⟨h3,tk,acc,c',rfl,rfl,ea,hS',kp3⟩;show#[_,rfl,aA (aep hS' (aF ?_))];exact q h3 tk d acc.toList (by rwa[ea]) kp3
 refine aA (jD (anV (d8.ty (s:={ s with heap:=h',drawn:=d }) X2) ?_));refine vo (fun _=>?_) (fun _=>?_)
 ·refine aA (pK (aA ?_));show wpAny _ _ (zm (~~~s) (·.push .none) >>= fun _=>zm (~~~s) (·.pop)) _ _ _;refine aA (pJ hS2 rfl ?_);have hS3:=uq (eO (·.push Value.none)) hS2 rfl;refine pJ (hz:=by seq_fits) hS3 rfl ?_;have hS4:=uq (eO (·.pop)) hS3 rfl;have ot:∀b o,b≠(~~~s)->h'.get? b=some o->((h'.update (~~~s) (eO (·.push Value.none))).update (~~~s) (eO (·.pop))).get? b=some o:=fun b o nb e=>(pP _ _ (aL nb)).trans ((pP _ _ (aL nb)).trans e);refine aF #[pI F.plain_extend_loop _,yZ (key _ _ ((W A hh).frame 0 _ _ st fun b m o e=>ot b o (fun z=>nf (by rwa[<-z])) e) ot hS4) fun res s' z=>?_];obtain⟨v,rfl,g⟩:=fin res s' z;exact g
 ·refine aF #[pI F.plain_extend_loop _,yZ (key h' 0 st (fun b o _ e=>e) hS2) fun res s' z=>?_];obtain⟨v,rfl,g⟩:=fin res s' z;exact g
end
end Sx
namespace L2
open PySem PySem.Spec PyProof.Rows
section
variable{X:Cx}
def SetO(P:aN)(w:World)(a:Addr)(ns:List Int):HO:=.ext fun h=>∃es ep t,Sx.d8 P w h a es ep t (Sx.iM w)/\(Sx.keys es).Perm (Sx.dd ns)
theorem Inv.drew(d:Drawn)(I:Inv X pins σ H s):Inv X pins σ H { s with drawn:=d }:=#[I.ok,I.os,I.bare,I.base,I.loc,I.cell,I.free,I.xZ,I.pin,I.hok,I.len]
def rSetC(P:aN)(w:World)(K:aH):List V->Hp->VK->Prop:=fun xs H Q=>∃a ns,xs=[V.ref a]/\SqL K H a (ns.map V.int)/\ns.length<1000/\∀l:Addr,H l=none->Q (.ref l) (upd H l (SetO P w l ns))
theorem ai8(hc:X.calm=true):gA X (.type "set") (rSetC X.prog X.w X.K):=by
 walk_at "l"
 obtain⟨a,ns,rfl,ha,few,q⟩:=h
 walk_at "x"
 cases ru;obtain⟨its,rv,p,hz⟩:=I.list ha;have hI:=intsAre_of rv;have hl:its.length=ns.length:=by rw[<-rv.length,aD]
 have hs:its.toArray.size=its.length:=bG;refine Sx.anS (items:=its.toArray) (ns:=ns) (I.ok.hd hc) p.isList (by simpa using hI) (by unfold scanBound;lia) fun h' tk es ep t x pk kp=>?_;show#[.ref (~~~s),_,I.laid (t':=tk) kp (aK _) (show dD X.prog X.w _ h' (~~~s) (SetO X.prog X.w (~~~s) ns)from#[#[es,ep,t,x,pk],#[_,x.o],fun h1 h2 ⟨e,p1,t1,y,pe⟩ k=>#[e,p1,t1,y.keep k,pe]]),rfl,q _ (I.hok.fresh (aK _))]
def auU(P:aN)(w:World):List V->Hp->VK->Prop:=fun xs H Q=>∃a ns,xs=[V.ref a]/\H a=some (SetO P w a ns)/\(Sx.dd ns).length<64/\∀(l:Addr)(ns':List Int),H l=none->ns'.Perm (Sx.dd ns)->ns'.Pairwise (· <= ·)->Q (.ref l) (upd H l (.lst (ns'.map V.int)))
theorem Wx:∀{es:List (Int × Value)},YB (g8 P w) es->IntsAre (es.map (·.2)) (es.map fun e=>Sx.iv e.2)
 |[],_=>.nil
 |(h,v)::r,e=>by
  obtain⟨⟨k,hk,_⟩,hs⟩:=e (h,v) bY;have hk:Jq k v=true:=hk;cases v <;> first|(simp[Jq]at hk;done)|skip
  exact .cons _ _ (Wx fun x m=>e x (cF _ m))
theorem IntsAre.auV{us vs:List Value}(h:IntsAre vs ns)(p:us.Perm vs):∃ms,IntsAre us ms/\ms.Perm ns:=by
 induction p generalizing ns with
 |nil=>show#[ns,h,.rfl]
 |cons x _ ih =>
  cases h with
  |cons n t h =>
   obtain⟨ms,a,b⟩:=ih h;show#[n::ms,.cons n t a,b.cons n]
 |swap x y l =>
  cases h with
  |cons n t h =>
   cases h with
   |cons m u h=>show#[m::n::_,.cons m u (.cons n t h),.swap ..]
 |trans _ _ ih1 ih2 =>
  obtain⟨ms,a,b⟩:=ih2 h;obtain⟨ks,c,d⟩:=ih1 a;show#[ks,c,d.trans b]
theorem agl(hc:X.calm=true):gA X (.builtin "sorted") (auU X.prog X.w):=by
 walk_at "l"
 obtain⟨a,ns,rfl,ha,f64,q⟩:=h
 walk_at "x"
 cases ru;obtain⟨⟨es,ep,t,x,pk⟩,_,_⟩:=I.hok a _ ha;apply afi Zj Zh Zi (ae5 _);unfold cO.«sorted»;apply aA (m:=Ys "sorted" 1 1 _);apply aF;apply aA;refine Sx.acf (A:=X.A.in1) (I.ok.hd hc) x fun h1 tk d acc pa kp=>?_;obtain⟨ms,hI,pm⟩:=IntsAre.auV (Wx x.el) pa;have hz:acc.length<=sizeLine:=by rw[pa.length_eq,aD,qZ];exact Ir x.few
 have h64:acc.length<64:=by
  have e1:=pa.length_eq;have e2:=pk.length_eq;unfold Sx.keys at e2;rw[aD]at e1 e2;lia
 apply aA;refine Pk ?_ hz;have hoL:(h1.push (cX "list" acc.toArray 0)).get? h1.objs.size=some (cX "list" acc.toArray 0):=cJ _ rfl;apply aA;refine jD (xW Zd #[_,hoL,rfl] Zc (al1 hoL hI h64 fun out ns' a1 a2 a3=>#[_,rfl,?_]) (ae2 _));refine aF #[_,rfl,?_];obtain⟨e,he⟩:=ae3 (vs:=acc) (out:=out) hoL;have hb:∀b ob,s⁻¹ b=some ob->b<h1.objs.size:=fun b ob e'=>aV (kp b ob e');have pf:ns'.Perm (Sx.dd ns):=(a2.trans pm).trans pk;show#[.ref h1.objs.size,_,(I.drew d).QZ (t':=tk) (fun b ob e'=>?_) (fun b ob e'=>bJ (hb b ob e')) (show dD X.prog X.w _ _ h1.objs.size (.lst (ns'.map V.int))from#[?_,out.toList,e,pD a1,by simpa using he]),rfl,q _ ns' (I.none_of fun b ob e'=>bJ (hb b ob e')) pf a3]
 ·have hlt:=hb b ob e';rw[ae1 (bJ hlt) (by rw[Qn];exact zx hlt)];exact cH _ (kp b ob e')
 ·rw[aD,(a2.trans pm).length_eq,aD,qZ];exact Ir x.few
end
end L2
namespace RG
abbrev Ls:=List (List Int)
def Sd(l:List Int):Prop:=l.Pairwise (· <= ·)
def srt(ns:List Int):List Int:=ns.mergeSort fun a b=>decide (a<=b)
theorem jF:∀{xs ys:List Int},xs.Perm ys->xs.Pairwise (· <= ·)->ys.Pairwise (· <= ·)->xs=ys
 |[],ys,p,_,_=>by rw[ad4.mp p]
 |x::xs,[],p,_,_=>mM p (by simp)
 |x::xs,y::ys,p,h1,h2=>by
  have a1:=fW.mp h1;have a2:=fW.mp h2;have e:x=y:=by
   have m1:x∈y::ys:=p.mem_iff.mp bY;have m2:y∈x::xs:=p.mem_iff.mpr bY;rcases aP.mp m1 with z|z
   ·exact z
   ·rcases aP.mp m2 with z'|z'
    ·exact z'.symm
    ·exact alz (a1.1 y z') (a2.1 x z)
  subst e;rw[jF (afn p) a1.2 a2.2]
theorem fC(ns:List Int):(srt ns).Perm ns:=O4 _ _
theorem tM(ns:List Int):Sd (srt ns):=by
 have:=Xq (le:=fun a b:Int=>decide (a<=b)) (fun a b c h1 h2=>by simp only[decide_eq_true_eq]at *; lia) (fun a b=>by simp only[Y6,decide_eq_true_eq];lia) ns;exact this.imp fun h=>mS h
theorem wF{ns ms:List Int}(p:ms.Perm ns)(h:ms.Pairwise (· <= ·)):ms=srt ns:=jF (p.trans (fC ns).symm) h (tM ns)
theorem eG(ns:List Int):(srt ns).length=ns.length:=(fC ns).length_eq
theorem mC:z∈srt ns↔z∈ns:=(fC ns).mem_iff
def pick(o:Bool):List Int->List Int
 |a::b::r=>(if o then b else a)::pick o r
 |_=>[]
def lft:List Int->List Int
 |_::_::r=>lft r
 |l=>l
theorem Bk:∀l:List Int,(lft l).length=l.length % 2
 |[]=>rfl
 |[_]=>rfl
 |_::_::r=>by
  have:=Bk r;show(lft r).length=(r.length+1+1) % 2;lia
theorem mU(o:Bool):∀l:List Int,(pick o l).length=l.length / 2
 |[]=>by simp[pick]
 |[_]=>by simp[pick]
 |_::_::r=>by
  have:=mU o r;show(pick o r).length+1=(r.length+1+1) / 2;lia
theorem acg:∀l:List Int,lft l=l.drop (l.length-l.length % 2)
 |[]=>rfl
 |[_]=>rfl
 |a::b::r=>by
  have:=acg r;show lft r=(a::b::r).drop (r.length+1+1-(r.length+1+1) % 2);rwa[show r.length+1+1-(r.length+1+1) % 2=(r.length-r.length % 2)+1+1 by lia,akj,akj]
theorem ahR:∀{l:List Int},z∈lft l->z∈l
 |[],h=>h
 |[_],h=>h
 |_::_::r,h=>cF _ (cF _ (ahR (l:=r) h))
theorem ach:∀{l:List Int},z∈pick o l->z∈l
 |[],h=>nomatch h
 |[_],h=>nomatch h
 |a::b::r,h=>by
  rcases aP.mp h with e|e
  ·cases o
   ·rw[e];exact bY
   ·rw[e];exact cF _ bY
  ·exact cF _ (cF _ (ach (l:=r) e))
theorem anW:∀{l:List Int},Sd l->Sd (lft l)
 |[],h=>h
 |[_],h=>h
 |_::_::r,h=>anW (l:=r) (fW.mp (fW.mp h).2).2
def cnt(x:Int)(l:List Int):Nat:=(l.filter fun z=>decide (z<=x)).length
def val:Ls->Nat
 |[]=>0
 |l::r=>l.length+2*val r
def nr(x:Int):Ls->Nat
 |[]=>0
 |l::r=>cnt x l+2*nr x r
def pot(h:Nat):Ls->Nat
 |[]=>0
 |l::r=>h*2 ^ h*l.length+pot (h+1) r
theorem agm(ls:Ls):val ls=(ls.headD []).length+2*val ls.tail:=by cases ls <;> rfl
theorem anY(h:Nat)(ls:Ls):pot h ls=h*2 ^ h*(ls.headD []).length+pot (h+1) ls.tail:=by
 cases ls
 ·show 0=h*2 ^ h*0+0;rw[YQ]
 ·rfl
theorem aah{P:List Int->Prop}{ls:Ls}(h:∀l∈ls,P l)(h0:P []):P (ls.headD []):=by
 cases ls
 ·exact h0
 ·exact h _ bY
theorem agn{P:List Int->Prop}{ls:Ls}(h:∀l∈ls,P l):∀l∈ls.tail,P l:=fun l hl=>h l (akg hl)
def fQ(t:Int)(ls:Ls)(w:Nat):Ls:=
 if w=0 then ls else(if w % 2=1 then srt (ls.headD []++[t])else ls.headD [])::fQ t ls.tail (w / 2)
termination_by w
decreasing_by lia
theorem gG(t:Int)(ls:Ls):fQ t ls 0=ls:=by rw[fQ,mI rfl]
theorem gR(t:Int)(ls:Ls)(h:w≠0):fQ t ls w=(if w % 2=1 then srt (ls.headD []++[t])else ls.headD [])::fQ t ls.tail (w / 2):=by rw[fQ,mB h]
theorem ai9(t:Int)(h:w≠0):fQ t [[]] w=fQ t [] w:=by rw[gR t _ h,gR t [] h];rfl
theorem Wy(t:Int):∀w ls,val (fQ t ls w)=val ls+w:=by
 intro w
 induction w using Dp with
 |_ w ih =>
  intro ls;by_cases h:w=0
  ·rw[h,gG];rfl
  ·rw[gR t ls h];show fX _+2*val _=_;rw[ih (w / 2) tb_g%,agm ls];split
   ·rw[eG,cu];show _+1+_=_;lia
   ·lia
theorem aja(t:Int):∀w h ls,pot h ls<=pot h (fQ t ls w):=by
 intro w
 induction w using Dp with
 |_ w ih =>
  intro h ls;by_cases hw:w=0
  ·rw[hw,gG];exact aK _
  ·rw[gR t ls hw,anY h ls];show _<=h*2 ^ h*fX _+pot (h+1) _;have:=ih (w / 2) tb_g% (h+1) ls.tail;refine alo (ali _ ?_) this;split
   ·rw[eG,cu];lia
   ·exact aK _
theorem Wz{P:List Int->Prop}(t:Int)(h0:P [])(h1:∀l,P l->P (srt (l++[t]))):∀w ls,(∀l∈ls,P l)->∀l∈fQ t ls w,P l:=by
 intro w
 induction w using Dp with
 |_ w ih =>
  intro ls hl;by_cases hw:w=0
  ·rwa[hw,gG]
  ·rw[gR t ls hw];intro l m;rcases aP.mp m with e|e
   ·rw[e];split
    ·exact h1 _ (aah hl h0)
    ·exact aah hl h0
   ·exact ih (w / 2) tb_g% ls.tail (agn hl) l e
def Full(ls:Ls):Prop:=∀l,ls.getLast? = some l->l≠[]
theorem Bl(h:Full ls)(h0:ls=[]->l≠[]):Full (l::ls):=by
 intro m hm;cases ls with
 |nil=>simp at hm;rw[<-hm];exact h0 rfl
 |cons a r=>exact h m (by rwa[akc]at hm)
theorem uG(h:Full ls):Full ls.tail:=by
 intro m hm;cases ls with
 |nil=>exact nomatch hm
 |cons a r =>
  cases r with
  |nil=>exact nomatch hm
  |cons b r=>exact h m (by rwa[akc])
theorem aci(h:w≠0):fQ t ls w≠[]:=by rw[gR t ls h];exact kZ _ _
theorem ajb(h:fQ t ls w=[]):w=0/\ls=[]:=by
 by_cases hw:w=0
 ·rw[hw,gG]at h;show#[hw,h]
 ·exact mM h (aci hw)
theorem ago(t:Int):∀w ls,Full ls->Full (fQ t ls w):=by
 intro w
 induction w using Dp with
 |_ w ih =>
  intro ls hl;by_cases hw:w=0
  ·rwa[hw,gG]
  ·rw[gR t ls hw];refine Bl (ih (w / 2) tb_g% _ (uG hl)) fun e=>?_;have hw2:=(ajb e).1;rw[mI (show w % 2=1 by lia)];intro z;have:=mN fX z;rw[eG,cu]at this;exact mM this (by show ¬ _+1=0;lia)
inductive Stl (room:Int):Nat->Int->Int->Int->Ls->Ls->Int->Int->Int->Prop
 |nil (h:Nat) (tn ov un:Int):Stl room h tn ov un [] [] tn ov un
 |keep {h:Nat} {tn ov un:Int} {l:List Int} {ls out:Ls} {tn' ov' un':Int}:(l.length:Int)<=room->Stl room (h+1) tn ov un ls out tn' ov' un'->Stl room h tn ov un (l::ls) (l::out) tn' ov' un'
 |turn {h:Nat} {tn ov un:Int} {l:List Int} {ls out:Ls} {tn' ov' un':Int}:room<(l.length:Int) ->
   Stl room (h+1) (tn+1) (if tn % 2=0 then ov+2 ^ h else ov) (if tn % 2=0 then un else un+2 ^ h) (srt (ls.headD []++pick (decide (tn % 2=1)) l)::ls.tail) out tn' ov' un'->Stl room h tn ov un (l::ls) (lft l::out) tn' ov' un'
theorem Stl.uniq{tn ov un:Int}(a:Stl room h tn ov un ls out tn' ov' un'):∀{out2:Ls}{tn2 ov2 un2:Int},Stl room h tn ov un ls out2 tn2 ov2 un2->out2=out/\tn2=tn'/\ov2=ov'/\un2=un':=by
 induction a with
 |nil=>intro _ _ _ _ b;cases b;show#[rfl,rfl,rfl,rfl]
 |keep hl _ ih =>
  intro _ _ _ _ b;cases b with
  |keep _ b=>obtain⟨e1,e2,e3,e4⟩:=ih b;show#[by rw[e1],e2,e3,e4]
  |turn hg _=>lia
 |turn hl _ ih =>
  intro _ _ _ _ b;cases b with
  |keep hg _=>lia
  |turn _ b=>obtain⟨e1,e2,e3,e4⟩:=ih b;show#[by rw[e1],e2,e3,e4]
theorem Stl.val{tn ov un:Int}(a:Stl room h tn ov un ls out tn' ov' un'):val out=val ls:=by
 induction a with
 |nil=>rfl
 |keep _ _ ih=>show _+2*_=_+2*_;rw[ih]
 | @turn _ _ _ _ l ls _ _ _ _ _ _ ih =>
  show fX _+2*_=_+2*_;rw[ih,Bk];show _+2*(fX _+2*RG.val ls.tail)=_;rw[eG,cu,mU,agm ls];lia
theorem Stl.all{P:List Int->Prop}(h0:P [])(hL:∀l,P l->P (lft l))(hP:∀l m o,P l->P m->P (srt (l++pick o m))){room:Int}{h:Nat}{tn ov un:Int}{ls out:Ls}{tn' ov' un':Int}(a:Stl room h tn ov un ls out tn' ov' un'):(∀l∈ls,P l)->∀l∈out,P l:=by
 induction a with
 |nil=>exact id
 |keep _ _ ih =>
  intro hl l m;rcases aP.mp m with e|e
  ·rw[e];exact hl _ bY
  ·exact ih (fun l hm=>hl l (cF _ hm)) l e
 | @turn _ _ _ _ l0 ls _ _ _ _ _ _ ih =>
  intro hl l m;have h1:P l0:=hl _ bY;have h2:∀l∈ls,P l:=fun l hm=>hl l (cF _ hm);rcases aP.mp m with e|e
  ·rw[e];exact hL _ h1
  ·refine ih (fun l hm=>?_) l e;rcases aP.mp hm with z|z
   ·rw[z];exact hP _ _ _ (aah h2 h0) h1
   ·exact agn h2 l z
theorem Stl.small(r1:1<=room){tn ov un:Int}(a:Stl room h tn ov un ls out tn' ov' un'):∀l∈out,(l.length:Int)<=room:=by
 induction a with
 |nil=>exact fun _ h=>nomatch h
 |keep hl _ ih =>
  intro l m;rcases aP.mp m with e|e
  ·rwa[e]
  ·exact ih l e
 |turn _ _ ih =>
  intro l m;rcases aP.mp m with e|e
  ·rw[e,Bk];lia
  ·exact ih l e
theorem Stl.empty{tn ov un:Int}(a:Stl room h tn ov un ls out tn' ov' un')(e:out=[]):ls=[]:=by
 cases a with
 |nil=>rfl
 |keep _ _=>cases e
 |turn _ _=>cases e
theorem Stl.full(r1:1<=room){tn ov un:Int}(a:Stl room h tn ov un ls out tn' ov' un'):Full ls->Full out:=by
 induction a with
 |nil=>exact id
 | @keep _ _ _ _ l ls out _ _ _ _ a ih =>
  intro f;refine Bl (ih (uG f)) fun e=>?_;have:=a.empty e;subst this;exact f l rfl
 | @turn _ _ _ _ l ls out _ _ _ hl a ih =>
  intro f;refine Bl (ih (Bl (uG (uG f)) fun _ z=>?_)) fun e=>?_
  ·have:=mN fX z;rw[eG,cu,mU]at this;have:(_:Nat)+l.length / 2=0:=this;lia
  ·exact mM (a.empty e) (kZ _ _)
theorem Stl.mono{tn ov un:Int}(a:Stl room h tn ov un ls out tn' ov' un'):tn<=tn'/\ov<=ov'/\un<=un':=by
 induction a with
 |nil=>show#[cC _,cC _,cC _]
 |keep _ _ ih=>exact ih
 | @turn h tn ov un _ _ _ _ _ _ _ _ ih =>
  have p:(0:Int)<2 ^ h:=aeP tb_g%;obtain⟨i1,i2,i3⟩:=ih;show#[by lia,?_,?_]
  ·split at i2 <;> lia
  ·split at i3 <;> lia
theorem Stl.pot(ev:room % 2=0){tn ov un:Int}(a:Stl room h tn ov un ls out tn' ov' un'):room*(ov'+un'-ov-un)+pot h ls<=pot h out:=by
 induction a with
 |nil h tn ov un =>
  rw[show ov+un-ov-un=0 by lia,Int.mul_zero];lia
 | @keep h _ _ _ l ls out _ _ _ _ _ ih =>
  show _+((h*2 ^ h*l.length+RG.pot (h+1) ls:Nat):Int)<=((h*2 ^ h*l.length+RG.pot (h+1) out:Nat):Int);lia
 | @turn h tn ov un l ls out tn' ov' un' hl _ ih =>
  show _+((h*2 ^ h*l.length+RG.pot (h+1) ls:Nat):Int)<=((h*2 ^ h*(lft l).length+RG.pot (h+1) out:Nat):Int);have e:RG.pot (h+1) (srt (ls.headD []++pick (decide (tn % 2=1)) l)::ls.tail)=RG.pot (h+1) ls+(h+1)*2 ^ (h+1)*(l.length / 2):=by
   show(h+1)*2 ^ (h+1)*fX _+RG.pot (h+1+1) ls.tail=_;rw[eG,cu,mU,anY (h+1) ls,zy];lia
  rw[e]at ih;have d:(if tn % 2=0 then ov+2 ^ h else ov)+(if tn % 2=0 then un else un+2 ^ h)=ov+un+2 ^ h:=by split <;> lia
  have ih2:room*(ov'+un'-(ov+un+2 ^ h))+((RG.pot (h+1) ls+(h+1)*2 ^ (h+1)*(l.length / 2):Nat):Int)<=RG.pot (h+1) out:=by
   rw[<-d];refine Dt (Int.le_of_eq ?_) ih;congr 2;lia
  rw[Bk];have m1:room*(ov'+un'-(ov+un+2 ^ h))=room*(ov'+un'-ov-un)-room*2 ^ h:=by
   rw[<-Int.mul_sub];congr 1;lia
  rw[m1]at ih2;have key:h*2 ^ h*l.length+(2*(l.length / 2))*2 ^ h=h*2 ^ h*(l.length % 2)+(h+1)*2 ^ (h+1)*(l.length / 2):=by
   have e1:l.length=2*(l.length / 2)+l.length % 2:=by lia
   generalize l.length / 2=m at e1 ⊢;generalize l.length % 2=c at e1 ⊢;rw[e1,jy]
   grind
  have big:room*2 ^ h<=((2*(l.length / 2)*2 ^ h:Nat):Int):=by
   have r2:room<=((2*(l.length / 2):Nat):Int):=by lia
   have p:(0:Int)<=2 ^ h:=Int.pow_nonneg tb_g%;have:=Fx r2 p;rw[aeK];rwa[YX]
  have key':((h*2 ^ h*l.length:Nat):Int)+((2*(l.length / 2)*2 ^ h:Nat):Int)=((h*2 ^ h*(l.length % 2):Nat):Int)+(((h+1)*2 ^ (h+1)*(l.length / 2):Nat):Int):=by
   rw[<-Qe,<-Qe,key]
  rw[Qe,Qe];rw[Qe]at ih2;lia
theorem anZ:∀ls h,pot h ls<=(h+ls.length-1)*(2 ^ h*val ls)
 |[],h=>by show 0<=_;exact cg _
 |l::r,h=>by
  have ih:=anZ r (h+1);show h*2 ^ h*l.length+pot (h+1) r<=(h+(r.length+1)-1)*(2 ^ h*(l.length+2*val r));rw[show h+(r.length+1)-1=h+r.length by lia];rw[show h+1+r.length-1=h+r.length by lia]at ih;have e:2 ^ h*(l.length+2*val r)=2 ^ h*l.length+2 ^ (h+1)*val r:=by rw[jy];grind
  rw[e,zy];refine alo ?_ ih;rw[vD];exact Fw _ tb_g%
theorem aai:∀{ls:Ls},Full ls->ls≠[]->2 ^ (ls.length-1)<=val ls
 |[],_,h=>mM rfl h
 |[l],f,_=>by
  have:=f l rfl;show 1<=l.length+2*0;cases l with
  |nil=>exact mM rfl this
  |cons a r=>show 1<=r.length+1+0;lia
 |l::m::r,f,_=>by
  have ih:=aai (ls:=m::r) (uG f) (kZ _ _);show 2 ^ ((m::r).length+1-1)<=l.length+2*val (m::r);rw[show(m::r).length+1-1=((m::r).length-1)+1 by rw[cD];lia,jy];lia
theorem Gq{α:Type}{ms:List α}{p:Nat}{l:α}(h:ms[p]? = some l):ms.take (p+1)=ms.take p++[l]:=by rw[jg,h];rfl
theorem fV{α:Type}{ms:List α}{p:Nat}{l:α}(h:ms[p]? = some l):ms.drop p=l::ms.drop (p+1):=by
 obtain⟨hp,e⟩:=dI.mp h;rw[K8 hp,e]
theorem acj{α:Type}{ms:List α}{p:Nat}{l m:α}(h:ms[p]? = some l):(ms.set p m).take (p+1)=ms.take p++[m]:=by
 obtain⟨hp,e⟩:=dI.mp h;rw[Gq (l:=m) (by rw[Xv hp]),akk (aK _)]
theorem set_drop{α:Type}{ms:List α}{p:Nat}{m:α}:(ms.set p m).drop (p+1)=ms.drop (p+1):=by rw[adY (sH p)]
theorem Gs{α:Type}{ms:List α}{p:Nat}{l:α}(h:ms[p]? = some l):ms.set p l=ms:=by
 obtain⟨hp,e⟩:=dI.mp h;rw[<-e,List.set_getElem_self]
theorem Rh{t:Int}{ms:Ls}{p k:Nat}{l:List Int}(h:ms[p]? = some l)(hk:k≠0):
  (ms.set p (if k % 2=1 then srt (l++[t])else l)).take (p+1)++fQ t ((ms.set p (if k % 2=1 then srt (l++[t])else l)).drop (p+1)) (k / 2)=ms.take p++fQ t (ms.drop p) k:=by
 rw[acj h,set_drop,fV h,gR t _ hk,iB];rfl
theorem agp{ms:Ls}(h:p=ms.length)(hk:k≠0):(ms++[[]]).take p++fQ t ((ms++[[]]).drop p) k=ms.take p++fQ t (ms.drop p) k:=by
 rw[h,List.take_left,akt,jC,O7,ai9 t hk]
theorem qx:∀xs ys,val (xs++ys)=val xs+2 ^ xs.length*val ys
 |[],ys=>by show val ys=0+1*val ys;lia
 |x::xs,ys=>by
  show x.length+2*val (xs++ys)=x.length+2*val xs+2 ^ (xs.length+1)*val ys;rw[qx xs ys,jy,zy,Dr _ 2,vD];lia
structure Run(room tn ov un:Int)(ls:Ls)(q:Nat)(tn2 ov2 un2:Int)(ms:Ls):Prop where
 cont:∀out tn' ov' un',Stl room q tn2 ov2 un2 (ms.drop q) out tn' ov' un'->Stl room 0 tn ov un ls (ms.take q++out) tn' ov' un'
 vl:val (ms.take q)+2 ^ q*val (ms.drop q)=val ls
 le:q<=ms.length
 b1:(∀l∈ls,l.length<=31)->∀l∈ms,l.length<=62
 b2:(∀l∈ls,l.length<=31)->∀l∈ms.drop (q+1),l.length<=31
 b0:(∀l∈ls,(l.length:Int)<=room)->ms=ls
theorem Run.start{room tn ov un:Int}:Run room tn ov un ls 0 tn ov un ls:=
 #[fun _ _ _ _ h=>h,by show 0+1*_=_;rw[Yb];lia,cg _,fun h l hl=>by have:=h l hl;lia,fun h l hl=>h l (XD hl),fun _=>rfl]
theorem Run.done{room tn ov un tn2 ov2 un2:Int}(r:Run room tn ov un ls q tn2 ov2 un2 ms)(h:ms.length<=q):Stl room 0 tn ov un ls ms tn2 ov2 un2:=by
 have:=r.cont [] tn2 ov2 un2 (by rw[adU h];exact .nil _ _ _ _);rwa[yU,uh h]at this
theorem Run.keep{room tn ov un tn2 ov2 un2:Int}{ls ms:Ls}{q:Nat}{l:List Int}(r:Run room tn ov un ls q tn2 ov2 un2 ms)(h:ms[q]? = some l)(hl:(l.length:Int)<=room):Run room tn ov un ls (q+1) tn2 ov2 un2 ms:=by
 obtain⟨hp,_⟩:=dI.mp h;show#[fun out tn' ov' un' s=>?_,?_,hp,r.b1,fun h l hl=>r.b2 h l (by rw[show q+1+1=1+(q+1) by lia,Nat.add_comm 1]at hl;exact XD (i:=1) (by rwa[List.drop_drop])),r.b0]
 ·have:=r.cont (l::out) tn' ov' un' (by rw[fV h];exact .keep hl s);rwa[Gq h,iB]
 ·have:=r.vl;rw[fV h]at this;rw[Gq h,qx,eX,PX tb_g%,<-this,jy];show _+2 ^ q*(l.length+2*0)+_=_+2 ^ q*(l.length+2*_);rw[zy,zy,vD];lia
theorem Run.big{room tn ov un tn2 ov2 un2:Int}(r:Run room tn ov un ls q tn2 ov2 un2 ms)(h:ms[q]? = some l)(hl:l≠[]):2 ^ q<=val ls:=by
 have:=r.vl;rw[fV h]at this;have e:val (l::ms.drop (q+1))=l.length+2*val (ms.drop (q+1)):=rfl;have l1:1<=l.length:=by
  cases l with
  |nil=>exact mM rfl hl
  |cons a b=>show 1<=b.length+1;lia
 have m:=ali (2 ^ q) (show 1<=val (l::ms.drop (q+1)) by lia);lia
def More(q:Nat)(ms ms':Ls)(nx:List Int):Prop:=(ms'=ms/\ms[q+1]? = some nx)\/(q+1=ms.length/\ms'=ms++[[]]/\nx=[])
theorem More.at(m:More q ms ms' nx)(h:ms[q]? = some l):ms'[q]? = some l/\ms'[q+1]? = some nx/\ms'.take q=ms.take q/\(ms.drop (q+1)).headD []=nx/\(ms.drop (q+1)).tail=ms'.drop (q+2):=by
 rcases m with⟨rfl,e⟩|⟨e,rfl,rfl⟩
 ·show#[h,e,rfl,?_,?_]
  ·rw[fV e];rfl
  ·rw[fV e];rfl
 ·obtain⟨hp,_⟩:=dI.mp h;show#[by rwa[OJ hp],by rw[e,Ft (aK _),Jh];rfl,List.take_append_of_le_length tb_g%,?_,?_]
  ·rw[e,O7];rfl
  ·rw[e,O7,adU (by rw[cu];show _+1<=_;lia)];rfl
theorem Run.turn{room tn ov un tn2 ov2 un2:Int}{ls ms ms':Ls}{q:Nat}{l nx:List Int}(r:Run room tn ov un ls q tn2 ov2 un2 ms)(m:More q ms ms' nx)(h:ms[q]? = some l)(hl:room<(l.length:Int)):
  Run room tn ov un ls (q+1) (tn2+1) (if tn2 % 2=0 then ov2+2 ^ q else ov2) (if tn2 % 2=0 then un2 else un2+2 ^ q) ((ms'.set q (lft l)).set (q+1) (srt (nx++pick (decide (tn2 % 2=1)) l))):=by
 obtain⟨h1,h2,h3,h4,h5⟩:=m.at h;obtain⟨p1,_⟩:=dI.mp h1;obtain⟨p2,_⟩:=dI.mp h2;have e0:(ms'.set q (lft l))[q+1]? = some nx:=by rwa[Ie tb_g%]
 have e1:((ms'.set q (lft l)).set (q+1) (srt (nx++pick (decide (tn2 % 2=1)) l))).take (q+1)=ms.take q++[lft l]:=by
  rw[akk (aK _),acj h1,h3]
 have e2:((ms'.set q (lft l)).set (q+1) (srt (nx++pick (decide (tn2 % 2=1)) l))).drop (q+1)=srt (nx++pick (decide (tn2 % 2=1)) l)::(ms.drop (q+1)).tail:=by
  rw[fV (l:=srt (nx++pick (decide (tn2 % 2=1)) l)) (by rw[Xv (by rwa[lA])]),set_drop,adY tb_g%,h5]
 have hm:(∀l∈ls,l.length<=31)->∀k∈ms',k.length<=62:=by
  intro hs;rcases m with⟨rfl,_⟩|⟨_,rfl,_⟩
  ·exact r.b1 hs
  ·intro k hk;rcases bH.mp hk with z|z
   ·exact r.b1 hs k z
   ·rw[bO.mp z];exact cg _
 have nx2:(∀l∈ls,l.length<=31)->nx.length<=31:=by
  intro hs;rcases m with⟨rfl,e⟩|⟨_,_,rfl⟩
  ·exact r.b2 hs nx (by rw[fV e];exact bY)
  ·exact cg _
 have ll:(∀l∈ls,l.length<=31)->l.length<=62:=fun z=>r.b1 z l (mv h);show#[fun out tn' ov' un' s=>?_,?_,by rw[lA,lA];lia,fun hs k hk=>?_,fun hs k hk=>?_,fun hs=>?_]
 ·rw[e1,iB];refine r.cont (lft l::out) tn' ov' un' ?_;rw[fV h];refine .turn hl ?_;rw[h4];rwa[e2]at s
 ·have v:=r.vl;rw[fV h]at v;rw[e1,e2,qx,eX,PX (by have:=r.le;lia),<-v,jy];show _+2 ^ q*((lft l).length+2*0)+2 ^ q*2*((srt _).length+2*val _)=_+2 ^ q*(l.length+2*val _);rw[eG,cu,mU,Bk,agm (ms.drop (q+1)),h4,vD,alq,<-zy];congr 2;lia
 ·rcases BW hk with z|z
  ·rcases BW z with z|z
   ·exact hm hs k z
   ·rw[z,Bk];lia
  ·have:=nx2 hs;have:=ll hs;rw[z,eG,cu,mU];lia
 ·rw[set_drop,adY tb_g%,<-h5]at hk;exact r.b2 hs k (akg hk)
 ·have e:=r.b0 hs;have:=hs l (by rw[<-e];exact mv h);lia
theorem WD(t:Int):∀n w ls,w<2 ^ n->(fQ t ls w).length<=max ls.length n
 |0,w,ls,h=>by
  have:w=0:=by rw[YS]at h;lia
  rw[this,gG];lia
 |n+1,w,ls,h=>by
  by_cases hw:w=0
  ·rw[hw,gG];lia
  ·rw[gR t ls hw,cD];have:=WD t n (w / 2) ls.tail (by rw[jy]at h;lia);rw[List.length_tail]at this;lia
theorem Ri(t:Int):∀w ls,(∀l∈ls,l.length<=b)->∀l∈fQ t ls w,l.length<=b+1:=by
 intro w
 induction w using Dp with
 |_ w ih =>
  intro ls hl;by_cases hw:w=0
  ·rw[hw,gG];exact fun l h=>YM (hl l h)
  ·rw[gR t ls hw];intro l m;have hd:=aah (P:=fun l=>l.length<=b) hl (cg _);rcases aP.mp m with e|e
   ·rw[e];split
    ·rw[eG,cu];show _+1<=_;lia
    ·exact YM hd
   ·exact ih (w / 2) tb_g% ls.tail (agn hl) l e
theorem JQ(t:Int){P:Int->Prop}(ht:P t):∀w ls,(∀l∈ls,∀z∈l,P z)->∀l∈fQ t ls w,∀z∈l,P z:=
 Wz (P:=fun l=>∀z∈l,P z) t (fun _ h=>nomatch h) fun l hl z hz=>by
  rcases bH.mp (mC.mp hz)with e|e
  ·exact hl z e
  ·rwa[bO.mp e]
theorem an0(t:Int)(w:Nat)(ls:Ls)(h:∀l∈ls,Sd l):∀l∈fQ t ls w,Sd l:=Wz (P:=Sd) t List.Pairwise.nil (fun _ _=>tM _) w ls h
theorem Stl.mem{P:Int->Prop}{room:Int}{h:Nat}{tn ov un:Int}{ls out:Ls}{tn' ov' un':Int}(a:Stl room h tn ov un ls out tn' ov' un'):(∀l∈ls,∀z∈l,P z)->∀l∈out,∀z∈l,P z:=
 a.all (P:=fun l=>∀z∈l,P z) (fun _ h=>nomatch h) (fun l hl z hz=>hl z (ahR hz)) fun l m o hl hm z hz=>by
  rcases bH.mp (mC.mp hz)with e|e
  ·exact hl z e
  ·exact hm z (ach e)
theorem Stl.sd{tn ov un:Int}(a:Stl room h tn ov un ls out tn' ov' un'):(∀l∈ls,Sd l)->∀l∈out,Sd l:=
 a.all (P:=Sd) List.Pairwise.nil (fun _=>anW) fun _ _ _ _ _=>tM _
structure Good(r T ov un:Int)(ls:Ls):Prop where
 r2:2<=r
 r64:r<=64
 ev:r % 2=0
 vl:(val ls:Int)=T
 sd:∀l∈ls,Sd l
 sm:∀l∈ls,(l.length:Int)<=r
 fl:Full ls
 pt:(ov+un)*r<=pot 0 ls
 ov0:0<=ov
 un0:0<=un
theorem Good.new(h1:2<=r)(h2:r<=64)(h3:r % 2=0):Good r 0 0 0 []:=
 #[h1,h2,h3,rfl,fun _ h=>(nomatch h),fun _ h=>(nomatch h),fun _ h=>(nomatch h),by show(0+0)*r<=0;lia,cC _,cC _]
theorem Good.add{r T ov un tn tn' ov' un' t w:Int}(g:Good r T ov un ls)(w1:1<=w)(s:Stl r 0 tn ov un (fQ t ls w.toNat) out tn' ov' un'):Good r (T+w) ov' un' out/\out≠[]:=by
 have h1:=g.r2;have mo:=s.mono;have o0:=g.ov0;have u0:=g.un0;show#[#[g.r2,g.r64,g.ev,?_,s.sd (an0 t _ _ g.sd),s.small tb_g%,s.full tb_g% (ago t _ _ g.fl),?_,by lia,by lia],fun e=>?_]
 ·rw[s.val,Wy];have:=g.vl;lia
 ·have p1:=s.pot g.ev;have p2:=aja t w.toNat 0 ls;have p3:=g.pt;have e:r*(ov'+un'-ov-un)=(ov'+un')*r-(ov+un)*r:=by grind
  lia
 ·exact aci tb_g% (s.empty e)
theorem Good.bits{r T ov un:Int}(g:Good r T ov un ls)(h:ls≠[]):(2:Int) ^ (ls.length-1)<=T:=by
 have:=aai g.fl h;have e:=g.vl;have c:((2 ^ (ls.length-1):Nat):Int)=(2:Int) ^ (ls.length-1):=by rw[YX];rfl
 lia
theorem Good.near{r T ov un:Int}(g:Good r T ov un ls)(h:ls≠[]):(ov+un)*r<=T*((ls.length:Int)-1):=by
 have p:=anZ ls 0;rw[YS,Nat.one_mul,lG]at p;have q:=g.pt;have l1:1<=ls.length:=by
  cases ls with
  |nil=>exact mM rfl h
  |cons a b=>show 1<=b.length+1;lia
 have c:((ls.length-1)*val ls:Nat)=(((ls.length:Int)-1)*(val ls:Int)):=by rw[aeK,Int.natCast_sub l1];rfl
 rw[g.vl]at c;rw[aeM T];lia
theorem an1{ls:Ls}{i:Nat}{l:List Int}(h:ls[i]? = some l):val (ls.take (i+1))=val (ls.take i)+l.length*2 ^ i:=by
 obtain⟨hi,_⟩:=dI.mp h;rw[Gq h,qx,eX,PX tb_g%];show _+2 ^ i*(l.length+2*0)=_;rw[YQ,Qc,Dr]
theorem Good.len{r T ov un:Int}(g:Good r T ov un ls)(h:T<2 ^ n):ls.length<=n:=by
 by_cases e:ls=[]
 ·rw[e];exact cg _
 ·have:=g.bits e;rcases iy (ls.length-1) n with z|z
  ·lia
  ·have p:=PN (show 0<2 by decide) z;have c:((2 ^ n:Nat):Int)=(2:Int) ^ n:=by rw[YX];rfl
   have c2:((2 ^ (ls.length-1):Nat):Int)=(2:Int) ^ (ls.length-1):=by rw[YX];rfl
   lia
theorem Good.small{r T ov un:Int}(g:Good r T ov un ls):∀l∈ls,l.length<=64:=fun l h=>by have:=g.sm l h;have:=g.r64;lia
def tw(x:Int):List (Int × Int)->Int
 |[]=>0
 |p::r=>(if p.1<=x then p.2 else 0)+tw x r
def Rk(T ov un:Int)(ls:Ls)(rs:List (Int × Int)):Prop:=∀x,0<=tw x rs/\tw x rs<=T/\(nr x ls:Int)-ov<=tw x rs/\tw x rs<=nr x ls+un
def jn(l m:Ls)(i:Nat):List Int:=srt (l.getD i []++m.getD i [])
def uH(n:Nat)(l m:Ls):Ls:=(gY n).map (jn l m)
def join(l m:Ls):Ls:=uH (max l.length m.length) l m
theorem Ec(n:Nat)(l m:Ls):uH (n+1) l m=uH n l m++[jn l m n]:=by
 unfold uH;rw[List.range_succ,aR];rfl
theorem Bm(n:Nat)(l m:Ls):(uH n l m).length=n:=by
 unfold uH;rw[aD,Ij]
theorem Ci(l:Ls)(n:Nat):val (l.take (n+1))=val (l.take n)+(l.getD n []).length*2 ^ n:=by
 rcases iy n l.length with h|h
 ·rw[an1 (eE h),ug,eE h];rfl
 ·rw[uh tb_g%,uh h,ug,Fv h];show _=_+0*_;rw[Nat.zero_mul];rfl
theorem Ed:∀xs ys h,pot h (xs++ys)=pot h xs+pot (h+xs.length) ys
 |[],ys,h=>by show pot h ys=0+pot (h+0) ys;rw[lG,Qc]
 |x::xs,ys,h=>by
  show h*2 ^ h*x.length+pot (h+1) (xs++ys)=h*2 ^ h*x.length+pot (h+1) xs+pot (h+(xs.length+1)) ys;rw[Ed xs ys (h+1),show h+1+xs.length=h+(xs.length+1) by lia,alq]
theorem Cj(l:Ls)(n:Nat):pot 0 (l.take (n+1))=pot 0 (l.take n)+n*2 ^ n*(l.getD n []).length:=by
 rcases iy n l.length with h|h
 ·rw[Gq (eE h),Ed,eX,PX tb_g%,lG,ug,eE h];rfl
 ·rw[uh tb_g%,uh h,ug,Fv h];show _=_+_*0;rw[YQ];rfl
theorem z9(l m:Ls)(i:Nat):(jn l m i).length=(l.getD i []).length+(m.getD i []).length:=by
 unfold jn;rw[eG,cu]
theorem WK(l m:Ls):∀n,val (uH n l m)=val (l.take n)+val (m.take n)
 |0=>rfl
 |n+1=>by
  rw[Ec,qx,Bm,WK l m n,Ci,Ci];show _+2 ^ n*((jn l m n).length+2*0)=_;rw[YQ,Qc,z9,zy,Dr (2 ^ n),Dr (2 ^ n)];lia
theorem WM(l m:Ls):∀n,pot 0 (uH n l m)=pot 0 (l.take n)+pot 0 (m.take n)
 |0=>rfl
 |n+1=>by
  rw[Ec,Ed,Bm,WM l m n,Cj,Cj,lG];show _+(n*2 ^ n*(jn l m n).length+0)=_;rw[Qc,z9,zy];lia
theorem acn(l m:Ls):val (join l m)=val l+val m:=by
 unfold join;rw[WK,uh tb_g%,uh tb_g%]
theorem an2(l m:Ls):pot 0 (join l m)=pot 0 l+pot 0 m:=by
 unfold join;rw[WM,uh tb_g%,uh tb_g%]
theorem jZ(l m:Ls):(join l m).length=max l.length m.length:=Bm _ _ _
theorem uI{P:List Int->Prop}{ls:Ls}(h:∀l∈ls,P l)(h0:P [])(i:Nat):P (ls.getD i []):=by
 rcases iy i ls.length with z|z
 ·rw[ug,eE z];exact h _ (yS z)
 ·rwa[ug,Fv z]
theorem Gx{P:List Int->Prop}{l m:Ls}(h:∀i,P (jn l m i)):∀k∈join l m,P k:=by
 intro k hk;unfold join uH at hk;obtain⟨i,_,rfl⟩:=dH.mp hk;exact h i
theorem aqw(l m:Ls):∀k∈join l m,Sd k:=Gx fun _=>tM _
theorem ajc(hl:Full l)(hm:Full m):Full (join l m):=by
 intro k hk;rw[List.getLast?_eq_getElem?,jZ]at hk;have hp:=(dI.mp hk).1;rw[jZ]at hp;unfold join uH at hk;rw[cP,List.getElem?_range tb_g%]at hk;have e:jn l m (max l.length m.length-1)=k:=bC hk;intro z;have hz:(jn l m (max l.length m.length-1)).length=0:=by rw[e,z];rfl
 rw[z9]at hz;have one:∀{ls:Ls},Full ls->max l.length m.length=ls.length->(ls.getD (max l.length m.length-1) []).length=0->False:=by
  intro ls f e0 h0;have hi:ls.length-1<ls.length:=by lia
  have:=f ls[ls.length-1] (by rw[List.getLast?_eq_getElem?,eE hi]);rw[e0,ug,eE hi]at h0;exact this (BX.mp h0)
 rcases Nat.le_total l.length m.length with a|a
 ·exact one hm tb_g% tb_g%
 ·exact one hl tb_g% tb_g%
theorem Good.z7(g:Good r T1 ov1 un1 l)(h:Good r T2 ov2 un2 m)(s:Stl r 0 tn (ov1+ov2) (un1+un2) (join l m) out tn' ov' un'):Good r (T1+T2) ov' un' out:=by
 have h1:=g.r2;have mo:=s.mono;have a1:=g.ov0;have a2:=g.un0;have a3:=h.ov0;have a4:=h.un0;show#[g.r2,g.r64,g.ev,?_,s.sd (aqw l m),s.small tb_g%,s.full tb_g% (ajc g.fl h.fl),?_,by lia,by lia]
 ·rw[s.val,acn];have:=g.vl;have:=h.vl;lia
 ·have p1:=s.pot g.ev;have p2:=an2 l m;have p3:=g.pt;have p4:=h.pt;have e:r*(ov'+un'-(ov1+ov2)-(un1+un2))=(ov'+un')*r-(ov1+un1)*r-(ov2+un2)*r:=by grind
  lia
end RG
namespace WN
structure Box where
 f:Int
 l:Int
 s:Int
def sum(bs:List Box):Int:=(bs.map (·.s)).sum
theorem sum_nil:sum []=0:=rfl
theorem sum_cons(b:Box)(r:List Box):sum (b::r)=b.s+sum r:=by unfold sum;rw[cR,gH]
theorem sum_append(a b:List Box):sum (a++b)=sum a+sum b:=by unfold sum;rw[aR,X7]
def settle(room:Int):Int->Box->List Box->List Box
 |_,b,[]=>[b]
 |S,b,o::os=>if(b.s+o.s)*room<=S then settle room S #[o.f,b.l,b.s+o.s] os else b::settle room (S+b.s) o os
theorem Ef(room S:Int)(b:Box):settle room S b []=[b]:=rfl
theorem gB(room S:Int)(b o:Box)(os:List Box):settle room S b (o::os)=if(b.s+o.s)*room<=S then settle room S #[o.f,b.l,b.s+o.s] os else b::settle room (S+b.s) o os:=rfl
def settled(room:Int):List Box->List Box
 |[]=>[]
 |b::os=>settle room 0 b os
theorem Eh(room:Int):∀os S b,sum (settle room S b os)=b.s+sum os
 |[],S,b=>by rw[Ef,sum_cons]
 |o::os,S,b=>by
  rw[gB,sum_cons];split
  ·rw[Eh room os];show b.s+o.s+sum os=_;lia
  ·rw[sum_cons,Eh room os]
theorem aco(room:Int)(bs:List Box):sum (settled room bs)=sum bs:=by
 cases bs with
 |nil=>rfl
 |cons b os=>show sum (settle room 0 b os)=_;rw[Eh,sum_cons]
theorem Ei(room:Int):∀os S b,(settle room S b os).length<=os.length+1
 |[],S,b=>by rw[Ef];simp
 |o::os,S,b=>by
  rw[gB];split
  ·have:=Ei room os S #[o.f,b.l,b.s+o.s];simp only[cD];lia
  ·have:=Ei room os (S+b.s) o;simp only[cD];lia
theorem acp(room:Int)(bs:List Box):(settled room bs).length<=bs.length:=by
 cases bs with
 |nil=>exact aK _
 |cons b os=>exact Ei room os 0 b
def Multi(room:Int):Int->List Box->Prop
 |_,[]=>True
 |S,b::os=>(b.f≠b.l->b.s*room<=S)/\Multi room (S+b.s) os
def Aa(room:Int):Int->List Box->Prop
 |_,[]=>True
 |_,[_]=>True
 |S,b::o::os=>S<(b.s+o.s)*room/\Aa room (S+b.s) (o::os)
theorem Multi.mono:∀{bs:List Box}{S S':Int},S<=S'->Multi room S bs->Multi room S' bs
 |[],_,_,_,_=>trivial
 |b::os,S,S',h,m=>#[fun z=>Dt (m.1 z) h,Multi.mono tb_g% m.2]
theorem wG(room:Int):∀os S b,(b.f≠b.l->b.s*room<=S)->Multi room (S+b.s) os->Multi room S (settle room S b os)
 |[],S,b,h,_=>#[h,trivial]
 |o::os,S,b,h,m=>by
  rw[gB];split
  ·rename_i c;exact wG room os S _ (fun _=>c) (by show Multi room (S+(b.s+o.s)) os;rw[<-alB];exact m.2)
  ·show#[h,wG room os (S+b.s) o m.1 m.2]
theorem UL(h:Multi room 0 bs):Multi room 0 (settled room bs):=by
 cases bs with
 |nil=>trivial
 |cons b os=>exact wG room os 0 b h.1 h.2
theorem wH(hr:0<=room):∀os S b,0<=b.s->(∀x∈os,0<=x.s)->(∃h t,settle room S b os=h::t/\b.s<=h.s)/\Aa room S (settle room S b os)
 |[],S,b,_,_=>#[#[b,[],rfl,cC _],trivial]
 |o::os,S,b,hb,ho=>by
  have h0:=ho o bY;rw[gB];split
  ·obtain⟨⟨h,t,e,le⟩,n⟩:=wH hr os S #[o.f,b.l,b.s+o.s] (by show 0<=b.s+o.s;lia) fun x m=>ho x (cF _ m);have le':b.s+o.s<=h.s:=le;show#[#[h,t,e,by lia],n]
  ·rename_i c;obtain⟨⟨h,t,e,le⟩,n⟩:=wH hr os (S+b.s) o h0 fun x m=>ho x (cF _ m);show#[#[b,_,rfl,cC _],?_];rw[e]at n ⊢;show#[?_,n];have:(b.s+o.s)*room<=(b.s+h.s)*room:=Fx tb_g% hr;lia
theorem UW(hr:0<=room)(h:∀x∈bs,0<=x.s):Aa room 0 (settled room bs):=by
 cases bs with
 |nil=>trivial
 |cons b os=>exact(wH hr os 0 b (h b bY) fun x m=>h x (cF _ m)).2
structure Sums(P:Int->Int):Prop where
 zero:∀n,n<=0->P n=0
 mono:∀a b,a<=b->P a<=P b
def Chain(P:Int->Int)(edge:Int):Int->List Box->Prop
 |u,[]=>edge<=u->P u=P edge
 |u,b::os=>1<=b.f/\b.f<=b.l/\b.l<=u/\P u=P b.l/\b.s=P b.l-P (b.f-1)/\P (b.f-1)<P b.f/\P (b.l-1)<P b.l/\Chain P edge (b.f-1) os
theorem Chain.pos(hP:Sums P):∀{bs:List Box}{u:Int},Chain P edge u bs->∀b∈bs,1<=b.s
 |b::os,u,⟨_,h2,_,_,h5,h6,_,r⟩,x,m=>by
  walk_at "m"
  ·have:=hP.mono x.f x.l h2;lia
  ·exact Chain.pos hP r x m
theorem Chain.below:∀{bs:List Box}{u:Int},Chain P edge u bs->∀b∈bs,1<=b.f/\b.f<=b.l/\b.l<=u
 |b::os,u,⟨h1,h2,h3,_,_,_,_,r⟩,x,m=>by
  walk_at "m"
  ·show#[h1,h2,h3]
  ·obtain⟨k1,k2,k3⟩:=Chain.below r x m;show#[k1,k2,by lia]
theorem Chain.join(h:Chain P edge u (b::o::os)):Chain P edge u (#[o.f,b.l,b.s+o.s]::os):=by
 obtain⟨h1,h2,h3,h4,h5,h6,h7,k1,k2,k3,k4,k5,k6,k7,r⟩:=h;show#[k1,?_,h3,h4,?_,k6,h7,r]
 ·show o.f<=b.l;lia
 ·show b.s+o.s=P b.l-P (o.f-1);lia
theorem Chain.settle:∀{os:List Box}{S u:Int}{b:Box},Chain P edge u (b::os)->Chain P edge u (settle room S b os)
 |[],S,u,b,h=>h
 |o::os,S,u,b,h=>by
  rw[gB];split
  ·exact Chain.settle h.join
  ·obtain⟨h1,h2,h3,h4,h5,h6,h7,r⟩:=h;show#[h1,h2,h3,h4,h5,h6,h7,Chain.settle r]
theorem Chain.settled(h:Chain P edge u bs):Chain P edge u (settled room bs):=by
 cases bs with
 |nil=>exact h
 |cons b os=>exact Chain.settle h
def low(e:Int)(bs:List Box):Int:=sum (bs.filter fun b=>decide (e<b.f))
def cut(e:Int)(bs:List Box):Int:=sum (bs.filter fun b=>decide (b.f<=e/\e<b.l))
theorem an3:∀{bs:List Box}{u:Int},Chain P edge u bs->u<=e->low e bs=0/\cut e bs=0:=by
 intro bs u h hu;have k:=Chain.below h;constructor
 ·unfold low;rw[O2.mpr (fun x m=>by obtain⟨_,_,_⟩:=k x m;simp;lia)];rfl
 ·unfold cut;rw[O2.mpr (fun x m=>by obtain⟨_,_,_⟩:=k x m;simp;lia)];rfl
theorem Chain.near(hr:0<=room):∀{bs:List Box}{u S:Int},Chain P edge u bs->Multi room S bs->cut e bs*room<=S+low e bs\/cut e bs=0
 |[],u,S,_,_=>.inr rfl
 |b::os,u,S,h,m=>by
  obtain⟨h1,h2,h3,h4,h5,h6,h7,r⟩:=h;by_cases c1:e<b.f
  ·have e1:low e (b::os)=b.s+low e os:=by unfold low;rw[adT (by simpa using c1),sum_cons]
   have e2:cut e (b::os)=cut e os:=by unfold cut;rw[Xr (by simp;lia)]
   rw[e1,e2];rcases Chain.near (e:=e) hr r m.2 with z|z
   ·exact .inl tb_g%
   ·exact .inr z
  ·obtain⟨k1,k2⟩:=an3 r (e:=e) tb_g%;have e1:low e (b::os)=low e os:=by unfold low;rw[Xr (by simpa using c1)]
   by_cases c2:e<b.l
   ·have e2:cut e (b::os)=b.s+cut e os:=by unfold cut;rw[adT (by simp;lia),sum_cons]
    refine .inl ?_;rw[e1,e2,k1,k2];have:=m.1 tb_g%;simpa using this
   ·have e2:cut e (b::os)=cut e os:=by unfold cut;rw[Xr (by simp;lia)]
    exact .inr (by rw[e2,k2])
theorem jk{a:Int}(h:0<a)(n:Nat):0<a ^ n:=aeP h
theorem grown(hr:1<=room):∀(q:Nat){bs:List Box}{S:Int},1<=S->Aa room S bs->bs.length=2*q->S*(room+1) ^ q<=(S+sum bs)*room ^ q/\(0<q->S*(room+1) ^ q<(S+sum bs)*room ^ q)
 |0,bs,S,h,n,l=>by
  have:bs=[]:=BX.mp tb_g%;subst this;show#[?_,fun z=>mM z (oN _)];rw[sum_nil];simp
 |q+1,bs,S,h,n,l=>by
  match bs,n,l with
  |b::o::os,n,l =>
   have l':os.length=2*q:=by simp only[cD]at l;lia
   obtain⟨n1,n2⟩:=n;have n3:Aa room (S+b.s+o.s) os:=by
    cases os with
    |nil=>trivial
    |cons c cs=>exact n2.2
   have hb:S*(room+1)+1<=(S+b.s+o.s)*room:=by
    rw[Y4,aeN,alB S b.s o.s,Du];lia
   have S0:1<=S+b.s+o.s:=by
    by_cases c:1<=S+b.s+o.s
    ·exact c
    ·have:(S+b.s+o.s)*room<=0:=Int.mul_nonpos_of_nonpos_of_nonneg tb_g% tb_g%;have:0<=S*(room+1):=alA tb_g% tb_g%;lia
   obtain⟨g1,_⟩:=grown hr q S0 n3 l';have p0:=jk (show(0:Int)<room+1 by lia) q;have p1:=jk (show(0:Int)<room by lia) q;have strict:S*(room+1) ^ (q+1)<(S+sum (b::o::os))*room ^ (q+1):=by
    rw[sum_cons,sum_cons,zA,zA];have e1:S*((room+1) ^ q*(room+1))=S*(room+1)*(room+1) ^ q:=by rw[aeM ((room+1) ^ q),Ds]
    have e2:(S+(b.s+(o.s+sum os)))*(room ^ q*room)=(S+b.s+o.s+sum os)*room ^ q*room:=by rw[<-Ds];congr 2;lia
    rw[e1,e2];have k1:(S*(room+1)+1)*(room+1) ^ q<=(S+b.s+o.s)*room*(room+1) ^ q:=Fx hb tb_g%;have k2:(S+b.s+o.s)*(room+1) ^ q*room<=(S+b.s+o.s+sum os)*room ^ q*room:=Fx g1 tb_g%;have e3:(S+b.s+o.s)*room*(room+1) ^ q=(S+b.s+o.s)*(room+1) ^ q*room:=by rw[alw]
    rw[Du,aeO]at k1;lia
   show#[YZ strict,fun _=>strict]
theorem few(hr:1<=room)(pos:∀b∈bs,1<=b.s)(n:Aa room 0 bs):∀p:Nat,2+2*p<bs.length->(room+1) ^ (p+1)<sum bs*room ^ (p+1):=by
 have shrink:∀(k:Nat){bs:List Box}{S:Int},Aa room S bs->Aa room S (bs.take k):=by
  intro k bs
  induction bs generalizing k with
  |nil=>intro S _;rw[ad5];trivial
  |cons b r ih =>
   intro S h;cases k with
   |zero=>trivial
   |succ k =>
    cases r with
    |nil=>rw[adZ,ad5];trivial
    |cons o os =>
     cases k with
     |zero=>rw[adZ,aku];trivial
     |succ k=>show#[h.1,ih (k+1) h.2]
 have aqx:∀(k:Nat){bs:List Box},(∀b∈bs,1<=b.s)->sum (bs.take k)<=sum bs:=by
  intro k bs
  induction bs generalizing k with
  |nil=>intro _;rw[ad5];exact cC _
  |cons b r ih =>
   intro h;cases k with
   |zero =>
    have:∀{l:List Box},(∀b∈l,1<=b.s)->0<=sum l:=fun {l}=>by
     induction l with
     |nil=>intro _;exact cC _
     |cons c cs ih=>intro h;rw[sum_cons];have:=h c bY;have:=ih fun x m=>h x (cF _ m);lia
    rw[aku];exact this h
   |succ k=>rw[adZ,sum_cons,sum_cons];have:=ih k fun x m=>h x (cF _ m);lia
 intro p hl
 match bs,pos,n,hl with
 |b::r,pos,n,hl =>
  have lr:2*(p+1)<=r.length:=by simp only[cD]at hl;lia
  have hb:=pos b bY;have n2:Aa room b.s (r.take (2*(p+1))):=by
   refine shrink _ ?_;cases r with
   |nil=>trivial
   |cons o os=>have:=n.2;rwa[Y0]at this
  obtain⟨_,g⟩:=grown hr (p+1) hb n2 (by rw[eX];lia);have g':=g (aeF _);have s1:=aqx (2*(p+1)) (bs:=r) fun x m=>pos x (cF _ m);have p0:=jk (show(0:Int)<room+1 by lia) (p+1);have p1:=jk (show(0:Int)<room by lia) (p+1);have k1:1*(room+1) ^ (p+1)<=b.s*(room+1) ^ (p+1):=Fx hb tb_g%;have k2:(b.s+sum (r.take (2*(p+1))))*room ^ (p+1)<=(b.s+sum r)*room ^ (p+1):=Fx tb_g% tb_g%;rw[sum_cons];lia
end WN
namespace L2
open PySem PySem.Spec PyProof.Rows
section
variable{A:aU}{s:Shared}
def outR(Q E:Value->Shared->Prop)(r:lC)(z:Shared):Prop:=match r with
 | .ok (.ret u)=>Q u z
 | .ok _=>False
 | .error u=>E u z
def outF(prog:aN)(w:World)(A:aU)(Q E:Value->Shared->Prop)(f:Fin)(z:Shared):Prop:=match f with
 | .done g=>outR Q E (.ok g) z
 | .again c=>c.quiet=true/\fY (model prog w) A c (outR Q E) z
theorem aqy{id:String}{b:cO}{xs:List Value}{kw:List (Str × Value)}{Q:Value->Shared->Prop}(hk:builtinKind id=none)
  (hp:YC id=true) (hb:vq table id=some b) (ha:rY id #[xs,kw])
  (hc:wpAny (model prog w) A.in1 (b #[xs,kw]) (outF prog w A Q E) E s):wpAny (model prog w) A (call (.builtin id) xs kw) Q E s:=by
 refine Pq (ad6 hp hb ?_);simp only [aec,hk];have hc2:=iw hc (Q':=fun f z=>match f with
  | .done g=>outR Q E (.ok g) z
  | .again c=>c.quiet=true/\fY (model prog w) A c (outR Q E) z) (fun _ _ h=>h) fun _ _ h=>h
 generalize hsig:Manifest.signature? id=sg at *;cases sg with
 |none=>exact aF hc2
 |some sig =>
  have e:amB id sig #[xs,kw]=pure ():=by
   simp only[rY,hsig]at ha;exact ha
  refine(?_:wpAny _ A.in1 (amB id sig #[xs,kw]) _ _ s);rw[e];exact aF hc2
end
def bdB(b:Bool)(xs:Array (Int × Tok))(i j:Nat):Bool:=cond b (decide (numAt xs i<numAt xs j)) (decide (numAt xs i>numAt xs j))
theorem an4(b:Bool):vq table (cond b "min.loop" "max.loop")=some (cond b cO.«min.loop» cO.«max.loop»)/\YC (cond b "min.loop" "max.loop")=true/\(toString (cond b "min" "max")++toString ".loop" : String)=cond b "min.loop" "max.loop" := by
 cases b
 ·show#[F.entry_max_loop,F.plain_max_loop,tb_g%]
 ·show#[F.entry_min_loop,F.plain_min_loop,tb_g%]
theorem bd_as(b:Bool)(xs:Array (Int × Tok)):builtinKind (cond b "min" "max")=none/\YC (cond b "min" "max")=true/\vq table (cond b "min" "max")=some (cond b cO.«min» cO.«max»)/\CmpOf prog w A (cond b .Lt .Gt) (fun i v=>(Dj xs)[i]? = some v) (bdB b xs):=by
 cases b
 ·show#[F.kind_max,F.plain_max,F.entry_max,CmpOf.ints_gt (numAt xs) fun _ _=>aem]
 ·show#[F.kind_min,F.plain_min,F.entry_min,CmpOf.ints_lt (numAt xs) fun _ _=>aem]
theorem aqz(b:Bool)(a d:Value):rY (cond b "min" "max") #[[a],[("default",d)]]:=by cases b <;> (unfold rY;kernel_rfl)
section
variable{A:aU}{R:lC->Shared->Prop}{fp wr:List Addr}{St:Nat->Heap->Prop}
theorem an5(b:Bool)(W:Walks prog w A.in1 it fp wr n P St)(bt:Nat->Nat->Bool)
  (cm:CmpOf prog w A.in1 (cond b .Lt .Gt) P bt) (S:Addr) (nS:S∉fp) (kw:List (Str × Value)):
  ∀k j s u c,k+(j+1)=n->St (j+1) s.heap->P (m6 bt j) u ->
   s⁻¹ S=some { cls:=.type "list",data:=.seq [u,u].toArray c } ->
   (∀ v h' tk,P (m6 bt (n-1)) v->(∀ b o,b∉wr->b≠S->s⁻¹ b=some o->h'.get? b=some o) ->
    R (.ok (.ret v)) { s with heap:=h',toks:=tk }) ->
   fY (model prog w) A (.builtin (cond b "min.loop" "max.loop") #[[.ref it,.none,.ref S],kw]) R s:=by
 obtain⟨el,pl,nm⟩:=an4 b;cases b;all_goals
  dsimp only[cond]at *;have nw:S∉wr:=fun h=>nS (W.sub _ h);intro k
  induction k with
  |zero =>
   intro j s u c e st pu hS post;have ej:j=n-1:=by lia
   have en:j+1=n:=by lia
   rw[ej]at pu;rw[en]at st;refine pH el ?_;rw[q9 pl _];refine aA (oK hS rfl ?_);refine aA (CZ (W.done s _ _ st fun h1 tk1 kp=>?_));refine aA (pJ (kp S _ nw hS) rfl (aA (Dc (aF ?_))));exact post u _ tk1 pu fun b o nb nbS eb=>by
    rw[pP _ _ (aL nbS)];exact kp b o nb eb
  |succ k ih =>
   intro j s u c e st pu hS post;refine pH el ?_;rw[q9 pl _];refine aA (oK hS rfl ?_);refine aA (CZ (W.item (j+1) s _ _ tb_g% st fun v h1 tk1 pv st1 kp=>?_));have hS1:=kp S _ nw hS;refine aA (aF ?_);refine aA (CZ (jD (aA (cm (j+1) (m6 bt j) v u _ _ _ pv pu ?_))));refine aA (jD (CT (aA (Dc (aF ?_)))));have ab:m6 bt (j+1)=if bt (j+1) (m6 bt j)then j+1 else m6 bt j:=rfl
   cases hb:bt (j+1) (m6 bt j)with
   |true =>
    rw[hb,mI rfl]at ab;rw[mI rfl];refine aA (pJ hS1 rfl (aA (Dc ?_)));rw[nm];refine aF #[pI pl _,ih (j+1) _ v _ tb_g% (W.frame _ _ _ st1 fun b hb o eb=>?_) (by rw[ab];exact pv) (uq _ hS1 rfl) fun v2 h2 tk2 p2 k2=>?_]
    ·rwa[pP _ _ (fun z:S=b=>nS (z ▸ hb))]
    ·exact post v2 h2 tk2 p2 fun b o nb nbS eb=>k2 b o nb nbS (by
      rw [pP _ _ (aL nbS)];exact kp b o nb eb)
   |false =>
    rw[hb,mB tb_g%]at ab;rw[mB tb_g%];refine aA (Dc ?_);rw[nm];refine aF #[pI pl _,ih (j+1) _ u c tb_g% st1 (by rwa[ab]) hS1 fun v2 h2 tk2 p2 k2=>?_];exact post v2 h2 tk2 p2 fun b o nb nbS eb=>k2 b o nb nbS (kp b o nb eb)
theorem acq(b:Bool)(W:Walks prog w A.in1 it fp wr n P St)(bt:Nat->Nat->Bool)
  (cm:CmpOf prog w A.in1 (cond b .Lt .Gt) P bt) (S:Addr) (nS:S∉fp) (d:Value) {s:Shared} {c:Nat} (st:St 0 s.heap)
  (hS:s⁻¹ S=some { cls:=.type "list",data:=.seq #[] c })
  (post:∀ v h' tk,(if 0<n then P (m6 bt (n-1)) v else v=d)->(∀ b o,b∉wr->b≠S->s⁻¹ b=some o->h'.get? b=some o) ->
   R (.ok (.ret v)) { s with heap:=h',toks:=tk }) :
  fY (model prog w) A (.builtin (cond b "min.loop" "max.loop") #[[.ref it,.none,.ref S],[("default",d)]]) R s:=by
 obtain⟨el,pl,nm⟩:=an4 b;have bg:=an5 (prog:=prog) (w:=w) (A:=A) (R:=R) (it:=it) (fp:=fp) (wr:=wr) (n:=n) (P:=P) (St:=St) b;cases b;all_goals
  dsimp only[cond]at *;have nw:S∉wr:=fun h=>nS (W.sub _ h);refine pH el ?_;rw[q9 pl _];refine aA (oK hS rfl ?_);rcases Jg n with e|e
  ·subst e;refine aA (CZ (W.done s _ _ st fun h1 tk1 kp=>?_));refine aA (pK ?_);exact aF (post d h1 tk1 rfl fun b o nb _ eb=>kp b o nb eb)
  ·refine aA (CZ (W.item 0 s _ _ e st fun v h1 tk1 pv st1 kp=>?_));have hS1:=kp S _ nw hS;refine aA (aF ?_);refine aA (pJ hS1 rfl ?_);rw[nm];refine aF #[pI pl _,bg W bt cm S nS _ (n-1) 0 _ v _ tb_g% (W.frame _ _ _ st1 fun b hb o eb=>?_) pv (uq _ hS1 rfl) fun v2 h2 tk2 p2 k2=>?_]
   ·rwa[pP _ _ (fun z:S=b=>nS (z ▸ hb))]
   ·exact post v2 h2 tk2 (by rw [mI (show 0<n from e)];exact p2) fun b o nb nbS eb=>k2 b o nb nbS (by
     rw [pP _ _ (aL nbS)];exact kp b o nb eb)
end
section
variable{A:aU}{s:Shared}
theorem agq(b:Bool)(d:Value)(hh:A.handled=none)(hl:s.heap.IsList l (Dj xs))
  (post:∀ v h' tk,(if 0<xs.size then (Dj xs)[m6 (bdB b xs) (xs.size-1)]? = some v else v=d) ->
   (∀ b o,s⁻¹ b=some o->h'.get? b=some o)->Q v { s with heap:=h',toks:=tk }) :
  wpAny (model prog w) A (call (.builtin (cond b "min" "max")) [.ref l] [("default",d)]) Q E s:=by
 have bf:=fun {R it fp wr n P St}=>acq (prog:=prog) (w:=w) (A:=A) (R:=R) (it:=it) (fp:=fp) (wr:=wr) (n:=n) (P:=P) (St:=St) b;have ar:=aqz b (.ref l) d;obtain⟨el,pl,nm⟩:=an4 b;obtain⟨k0,p0,e0,cm⟩:=bd_as (prog:=prog) (w:=w) (A:=A.in1) b xs;cases b;all_goals
  dsimp only[cond]at *;have sz:(Dj xs).size=xs.size:=by simp[Dj]
  refine aqy k0 p0 e0 ar ?_;refine aA (vp (show atj _ ["key","default"] 0 #[[],[("default",d)]]=pure [none,some d]from rfl) ?_);refine aA (aF ?_);refine aA (iter_intList hl fun s2 e st hfp nlI=>?_);subst e;refine aA (yV ?_);rw[nm];refine aF #[pI pl _,bf (ZD (A:=A.in1) hh _ l nlI (Dj xs)) _ cm _ (fun hm=>oN _ (hfp _ hm)) d ?_ (cJ _ rfl) fun v h' tk hv kp=>?_]
  ·exact(ZD (A:=A.in1) (prog:=prog) (w:=w) hh _ l nlI (Dj xs)).frame _ _ _ st fun b _ o e=>cH _ e
  ·rw[sz]at hv;refine post v h' tk hv fun b o e=>kp b o ?_ ?_ (cH _ (cH _ e))
   ·intro hm;have h1:=bO.mp hm;have h2:=aV e;rw[h1]at h2;exact oN _ h2
   ·have h2:=aV e;rw[pQ];exact bJ (zx h2)
end
section
variable{X:Cx}{x:Str}{px p kp pos:Pos}
def Best(lo:Bool)(dv:V)(ns:List Int)(v:V):Prop:=(ns=[]/\v=dv)\/∃m,v=.int m/\m∈ns/\∀z∈ns,if lo then m<=z else z<=m
def auW(K:aH)(lo:Bool)(tl td:TE):TE:=fun σ H Q=>tl σ H fun y H1=>td σ H1 fun dv H2=>∃a ns,y=.ref a/\SqL K H2 a (ns.map V.int)/\∀v,Best lo dv ns v->Q v H2
theorem uJ(b:Bool)(hm0:X.mg (cond b "min" "max" : String)=none)(hl:PE X (.Name x px) tl)(hd:PE X de td)(hc:X.calm=true)(hg:Gl X (cond b "min" "max" : String):=by rfl):
  PE X (.Call (.Name (cond b "min" "max" : String) p) [.Name x px] [#[some "default",de,kp]] pos) (auW X.K b tl td):=by
 have bd:=fun {A s l xs Q}=>agq (prog:=X.prog) (w:=X.w) (A:=A) (E:=X.xe) (s:=s) (l:=l) (xs:=xs) (Q:=Q) b;have hbt:∀ys:Array (Int × Tok),m6 (bdB b ys) (ys.size-1)<=ys.size-1/\∀j,j<=ys.size-1->if b then numAt ys (m6 (bdB b ys) (ys.size-1))<=numAt ys j else numAt ys j<=numAt ys (m6 (bdB b ys) (ys.size-1)):=fun ys=>by
  cases b
  ·exact argBest_gt (numAt ys) (ys.size-1)
  ·exact argBest_lt (numAt ys) (ys.size-1)
 have bo:yX (cond b "min" "max" : String)=some (.builtin (cond b "min" "max")):=by
  cases b
  ·exact boot_max
  ·exact boot_min
 cases b;all_goals
  dsimp only[cond]at *
  k_dat (Q,h) "g"
  refine vm (jW I hg hm0 bo ?_);refine callWith_kw (vI (thn (hl pins s σ H _ I h) fun v s1 zq=>?_));obtain⟨y,H1,I1,r1,q1⟩:=zq;refine zJ (kws_cons (thn (hd pins s1 σ H1 _ I1 q1) fun d s2 ⟨dv,H2,I2,r2,q2⟩=>kws_nil ?_));obtain⟨a,ns,rfl,ha,q⟩:=q2;obtain rfl:v=Value.ref a:=r1;show wpAny _ _ (call (.builtin _) [.ref a] [(aW "default",d)]) _ _ _;obtain⟨its,rv,pl,hz⟩:=I2.list ha;have hi:=intsAre_of rv;have hl:=pl.isList;obtain⟨ys,ey⟩:=hi.allInts.items;have hns:ns=ys.toList.map (·.1):=by rw[<-hi.numsOf,<-akY,<-ey]
  have hsz:ns.length=ys.size:=by rw[hns,aD,qZ]
  rw[ey]at hl;refine bd d (I2.ok.hd hc) hl fun v h' tk hv hk=>?_;rcases Jg ys.size with z|z
  ·rw[mB tb_g%]at hv;subst hv;show#[dv,H2,I2.kept hk,r2,q _ (.inl #[BX.mp tb_g%,rfl])]
  ·rw[mI z]at hv;obtain⟨t,rfl⟩:=aem hv;obtain⟨h1,h2⟩:=hbt ys;show#[.int _,H2,I2.kept hk,#[t,rfl],q _ (.inr #[_,rfl,?_,fun b hb=>?_])]
   ·rw[hns,numAt_eq];exact getD_mem (by rw[aD,qZ];lia)
   ·rw[hns]at hb
    k_dat (j,hj,mem_getD,hb) "z"
    rw[aD,qZ]at hj;rw[<-numAt_eq];exact h2 j tb_g%
end
theorem agr{K:aH}{xs:List V}
  (Pv:Nat->List V->Hp->Prop) (h0:Pv 0 [] (upd H D (.lst [])))
  (hl:∀i ys H,i<=xs.length->Pv i ys H->SqT K H a xs/\H D=some (.lst ys)/\ys.length<sizeLine)
  (hs:∀i ys H x,xs[i]? = some x->Pv i ys H->tt (z8 σ (some x) caps) H fun b H2=>if b=true then te (z8 σ (some x) caps) H2 fun y H3=>H3 D=some (.lst ys)/\Pv (i+1) (ys++[y]) (upd H3 D (.lst (ys++[y])))else H2 D=some (.lst ys)/\Pv (i+1) ys H2)
  (hd:∀ys H,Pv xs.length ys H->Q (.ref D) H)
  (mT:∀σ H (R R':Bool->Hp->Prop),(∀b H,R b H->R' b H)->tt σ H R->tt σ H R')
  (mE:∀σ H (Q Q':VK),(∀y H,Q y H->Q' y H)->te σ H Q->te σ H Q'):oY (Itt K a) caps tt te σ D Q H:=by
 show#[fun i m ys G=>m=xs.length-i/\i<=xs.length/\Pv i ys G,#[xs.length,rfl,cg _,h0],?_];rintro i m ys G ⟨rfl,hi,p⟩;obtain⟨sq,q,z⟩:=hl i ys G hi p;show#[q,?_];rcases iy i xs.length with lt|ge
 ·refine .inr #[#[xs,xs[i],sq,eE lt],z,fun x G' y=>?_];obtain⟨rfl,y⟩:=y;refine mT _ _ _ _ (fun b G2 hb=>?_) (hs i ys _ x (y xs sq) p);cases b with
  |true =>
   rw[mI rfl]at hb ⊢;exact mE _ _ _ _ (fun y G3 ⟨a,b⟩=>#[a,xs.length-(i+1),by lia,rfl,lt,b]) hb
  |false =>
   rw[mB tb_g%]at hb ⊢;show#[hb.1,xs.length-(i+1),by lia,rfl,lt,hb.2]
 ·obtain rfl:i=xs.length:=by lia
  exact .inl #[#[xs,sq,aK _],hd ys G p]
section
variable{X:Cx}{e se:Expr}{te:TE}{lo hi:Option Expr}{p2 pos:Pos}
def wI{α:Type}(k:Int)(xs:List α)(lo hi:Option Int):List α:=
 (Pr (gZ lo hi (some k) xs.length).1 (gZ lo hi (some k) xs.length).2.1 (gZ lo hi (some k) xs.length).2.2).filterMap (xs[·]?)
def rSlK(K:aH)(k:Int):V->Option Int->Option Int->Hp->VK->Prop:=fun x lo hi H Q=>∃a xs,x=.ref a/\SqL K H a xs/\∀p,H p=none->Q (.ref p) (upd H p (.lst (wI k xs lo hi)))
def tSl2(K:aH)(te:TE)(tl th ts:TO):TE:=fun σ H Q=>te σ H fun x H1=>tl σ H1 fun l H2=>th σ H2 fun u H3=>ts σ H3 fun t H4=>∃k,t=some k/\k≠0/\rSlK K k x l u H4 Q
theorem aqA:∀{xs:List V}{us:List Value},Vals xs us->∀ks:List Nat,Vals (ks.filterMap (xs[·]?)) (ks.filterMap (us[·]?)):=by
 intro xs us r ks
 induction ks with
 |nil=>exact .nil
 |cons k ks ih =>
  rw[xT,xT];rcases iy k xs.length with h|h
  ·obtain⟨u,eu,ru⟩:=r.get (eE h);rw[eE h,eu];exact .cons ru ih
  ·rwa[Fv h,Fv (by rw[<-r.length];exact h)]
theorem an6(k:Int)(xs:List α)(lo hi:Option Int):(wI k xs lo hi).length<=xs.length:=by
 have:=slicePick_size_le (Array.replicate xs.length Value.none) lo hi (some k);rw[alQ]at this;unfold Pu at this;rw[bG,alQ]at this;refine cW (Qa ?_) this;unfold wI;rw[aj6,aj6];apply List.countP_congr;intro k _;simp[Array.getElem?_replicate]
theorem JR(he:PE X e te)(hl:PO X lo tl)(hu:PO X hi th)(hs:PO X (some se) ts):PE X (.Subscript e (.Slice lo hi (some se) p2) pos) (tSl2 X.K te tl th ts):=by
 k_dat (Q,h) "g"
 k_dat (ae7,he,v) "v"
 walk_at "s"
 refine wpAny_Slice (thn (hl pins s1 σ H1 _ I1 q1) fun vl s2 ⟨l,H2,I2,pl,q2⟩=>thn (hu pins s2 σ H2 _ I2 q2) fun vu s3 ⟨u,H3,I3,pu,q3⟩=>thn (hs pins s3 σ H3 _ I3 q3) fun vs s4 zq=>?_);obtain⟨t,H4,I4,pt,q4⟩:=zq;obtain⟨k,rfl,k0,a,xs,rfl,hx,q⟩:=q4;cases r1;have I5:Inv X pins σ H4 { s4 with heap:=s4.heap.push { cls:=.type "slice",data:=.fields [vl,vu,vs].toArray } }:=I4.kept (t':=s4.toks) fun b ob q=>cH _ q;obtain⟨its,r,ht,hz⟩:=I5.list hx;have hlen:=r.length;show wpAny (model X.prog X.w) X.A (Ze e (.Slice lo hi (some se) p2) (.ref a) (.ref (~~~s4))) (EP X pins σ Q) X.xe { s4 with heap:=s4.heap.push { cls:=.type "slice",data:=.fields [vl,vu,vs].toArray } };refine ae8 (ops:=[.ref a,.ref (~~~s4)]) ht.isList.typeIs ad8.lookup ?_ (by with_unfolding_all rfl);refine akA ht.isList (ams ..) pl pu pt (by simpa using k0) ?_ (by rw[bG];lia);have ec:Pu its.toArray l u (some k)=(wI k its l u).toArray:=by
  unfold Pu wI;rw[bG];simp only[Xx]
 rw[ec];show#[.ref _,_,I5.laid (t':=s4.toks) (o:=.lst (wI k xs l u)) (fun b ob q=>cH _ q) (aK _) ?_,rfl,q _ (I5.hok.fresh (aK _))];show#[cW (an6 k xs l u) hz,_,0,?_,cJ _ rfl];unfold wI;rw[<-hlen];exact aqA r _
end
theorem ajd{ns:List Int}(ht:t=0\/t=1):wI 2 (ns.map V.int) (some t) (some ((ns.length:Int)-(ns.length:Int) % 2))=(RG.pick (decide (t=1)) ns).map V.int:=by
 have hp:∀(ns:List Int)(o:Bool),RG.pick o ns=(gY (ns.length / 2)).filterMap fun k=>ns[(if o then 1 else 0)+2*k]?:=by
  intro ns o
  fun_induction RG.pick o ns with
  |case1 a b r ih =>
   have e:(a::b::r).length / 2=r.length / 2+1:=by simp only[cD];lia
   have sh:(fun k=>(a::b::r)[(if o=true then 1 else 0)+2*k]?) ∘ Nat.succ=fun k=>r[(if o=true then 1 else 0)+2*k]?:=by
    funext k
    show(a::b::r)[(if o=true then 1 else 0)+2*(k+1)]? = _;rw[show(if o=true then 1 else 0)+2*(k+1)=(if o=true then 1 else 0)+2*k+1+1 by lia,Xu,Xu]
   rw[ih,e,adV,xT,Ih,sh];cases o <;> rfl
  |case2 l h =>
   match l,h with
   |[],_=>rfl
   |[x],_=>simp
   |a::b::r,h=>exact mM rfl (h a b r)
 unfold wI;rw[hp,akm];have hn:(ns.map V.int).length=ns.length:=aD _;rw[hn];have b1:(gZ (some t) (some ((ns.length:Int)-(ns.length:Int) % 2)) (some 2) ns.length).1=min t ns.length:=by
  rcases ht with rfl|rfl <;> simp[gZ] <;> lia
 have b2:(gZ (some t) (some ((ns.length:Int)-(ns.length:Int) % 2)) (some 2) ns.length).2.1=(ns.length:Int)-(ns.length:Int) % 2:=by
  simp[gZ];lia
 have b3:(gZ (some t) (some ((ns.length:Int)-(ns.length:Int) % 2)) (some 2) ns.length).2.2=2:=rfl;rw[b1,b2,b3];unfold Pr;rw[Ih];have cnt:(if(2:Int)>0 then(if min t ns.length<(ns.length:Int)-(ns.length:Int) % 2 then((ns.length:Int)-(ns.length:Int) % 2-min t ns.length+2-1) / 2 else 0)else(if min t ns.length>(ns.length:Int)-(ns.length:Int) % 2 then(min t ns.length-((ns.length:Int)-(ns.length:Int) % 2)-2-1) / (-2)else 0)).toNat=ns.length / 2:=by
  rw[mI tb_g%];split
  ·rcases ht with rfl|rfl <;> lia
  ·rcases ht with rfl|rfl <;> lia
 rw[cnt];have fm:∀(ks:List Nat)(f g:Nat->Option V),(∀k∈ks,f k=g k)->ks.filterMap f=ks.filterMap g:=by
  intro ks f g
  induction ks with
  |nil=>intro _;rfl
  |cons k r ih =>
   intro h;rw[xT,xT,h k bY,ih fun j hj=>h j (cF _ hj)]
 refine fm _ _ _ fun k hk=>?_;have hk:=CN.mp hk;show(ns.map V.int)[(min t ns.length+2*(k:Int)).toNat]? = _;have:(min t ns.length+2*(k:Int)).toNat=(if decide (t=1)then 1 else 0)+2*k:=by
  rcases ht with rfl|rfl
  ·simp;lia
  ·simp;lia
 rw[this,cP]
def Itv(K:aH)(a:Addr)(n:Nat):It:=
 #[fun i H=>∃xs,SqL K H a xs/\xs.length=n/\i<n,fun i H x H'=>H'=H/\∀xs,SqL K H a xs->xs[n-1-i]? = some x,fun i _=>n<=i]
theorem an7{P:aN}{w:World}{K:aH}{tg:Expr}(a it:Addr)(n:Nat):Turn P w K tg (Itv K a n) [it] it (fun i h=>i<=n/\h.IsRevIter it a ((n:Int)-1-i)) where
 mem:=by simp
 obj:=fun i h st b hb=>by
  have e:b=it:=by simpa using hb
  subst e;obtain⟨_,o,e,c,d⟩:=st;show#[o,e,fun v z=>by rw[d]at z;cases z]
 keep:=fun i h h' st k=>#[st.1,st.2.at fun o e=>k it (by simp) o e]
 item:=by
  walk_at "b"
  subst hP hw hK;obtain⟨xs,hq,hn,hi⟩:=hg;obtain⟨its,rv,p,hz⟩:=I.list hq;have hx:xs[n-1-i]? = some (xs[n-1-i]'tb_g%):=eE tb_g%;obtain⟨u,hu,ru⟩:=rv.get hx
  k_dat it "d"
  have st2:=st.2;rw[show(n:Int)-1-i=((n-1-i:Nat):Int) by lia]at st2;refine wpAny_pyNext_rev_item st2 p.isList (x:=u) (by simpa using hu) fun h' st' sb=>?_;rw[show((n-1-i:Nat):Int)-1=(n:Int)-1-((i+1:Nat):Int) by lia]at st';have I1:Inv X pins σ H { s with heap:=h' }:=I.turned (t':=s.toks) (fun b o hb e=>(sb.2 b hb).trans e) f0 f1 f3 f4 f5;obtain⟨o,e,c,d⟩:=id st';show#[u,rfl,abN (s:={ s with heap:=h' }) e c d tb_g% #[_,H,I1,ru,#[rfl,fun ys hy=>by rwa[I.abM hy hq]],#[hi,st'],fun b hb=>(hf b hb).1]]
 done:=by
  walk_at "b"
  subst hP hw hK;have hle:n<=i:=hg;have e:i=n:=Nat.le_antisymm st.1 hle;subst e
  k_dat it "d"
  have st2:=st.2;rw[show(i:Int)-1-i = -1 by lia]at st2;exact wpAny_pyNext_rev_end (I.ok.hd hc) st2 fun h' eb=>#[rfl,I.turned (t':=s.toks) (fun b o hb e=>eb b o hb e) f0 f1 f3 f4 f5]
 self:=fun _ _ _ _ _ st h=>Yd st.2 h
section
variable{X:Cx}{tg:Expr}
def iRev(K:aH)(ta:TA):TI:=fun σ H R=>ta σ H fun vs H1=>∃a xs,vs=[.ref a]/\SqL K H1 a xs/\R (Itv K a xs.length) H1
theorem ags(hg:Gl X "reversed")(hm:X.mg "reversed" = none)(ha:PA X [a] ta)(hs:cj [a] X.env=[(false,eval a X.env)]:=by rfl):
  PI X tg (.Call (.Name "reversed" p) [a] [] pos) (iRev X.K ta):=by
 k_dat (R,h) "g"
 refine Call_ (jW I hg hm ae4 (zE (thn (ha pos pins s σ H _ I h) fun us s1 zq=>?_) hs rfl));obtain⟨vs,H1,I1,r1,q1⟩:=zq;obtain⟨l,xs,e,hq,q⟩:=q1;subst e;obtain⟨u,rfl,ru⟩:=vals1 r1;cases ru;obtain⟨its,rv,pl,hz⟩:=I1.list hq;have hlen:=rv.length;refine ad7 pl.isList ?_;have el:((its.toArray.size:Nat):Int)-1=(xs.length:Int)-1-((0:Nat):Int):=by rw[bG];lia
 refine Yd #[_,cJ _ rfl,rfl,rfl] #[_,[~~~s1],_,Itv X.K l xs.length,H1,rfl,I1.kept (t':=s1.toks) fun b o e=>cH _ e,an7 l _ _,#[cg _,_,cJ _ rfl,rfl,by rw[<-el];rfl],fun b hb=>?_,q];have e:b= ~~~s1:=by simpa using hb
 subst e;exact I1.afH (aK _) (I1.hok.fresh (aK _))
end
theorem aaj{K:aH}{a:Addr}{xs:List V}{g:TG}{tb:TS}{D:Ends}{σ:St}{H:Hp}(Pv:Nat->St->Hp->Prop)(h0:Pv 0 σ H)(hl:∀i σ H,i<=xs.length->Pv i σ H->SqL K H a xs)
  (hs:∀i x σ H,xs.reverse[i]? = some x->Pv i σ H->g x σ H fun σ2 H2=>tb { D with nx:=Pv (i+1),ct:=Pv (i+1),bk:=D.nx } σ2 H2) (hd:∀σ H,Pv xs.length σ H->D.nx σ H):
  ∃W:Nat->Nat->St->Hp->Prop,(∃m,W 0 m σ H)/\∀i m σ H,W i m σ H ->
   ((Itv K a xs.length).stop i H/\D.nx σ H)\/((Itv K a xs.length).go i H/\∃N:St->Hp->Prop,(∀σ' H',N σ' H'->∃m',m'<m/\W (i+1) m' σ' H')/\∀x H',(Itv K a xs.length).yld i H x H'->g x σ H' fun σ2 H2=>tb { D with nx:=N,ct:=N,bk:=D.nx } σ2 H2):=by
 show#[fun i m σ H=>m=xs.length-i/\i<=xs.length/\Pv i σ H,#[xs.length,by simp,cg _,h0],?_];rintro i m σ H ⟨rfl,hi,p⟩;have q:=hl i σ H hi p;by_cases hlt:i<xs.length
 ·refine .inr #[#[xs,q,rfl,hlt],Pv (i+1),fun σ' H' p'=>#[xs.length-(i+1),by lia,rfl,hlt,p'],fun x H' y=>?_];obtain⟨rfl,hx⟩:=y;exact hs i x σ H' (by rw[Xy hlt];exact hx xs q) p
 ·have e:i=xs.length:=by lia
  subst e;exact .inl #[aK _,hd σ H p]
theorem agt:zc (.type "list_reverseiterator") "__len__" = pure none:=by rw[Iw,Il];kernel_rfl
theorem an8:zc (.type "list_reverseiterator") "__length_hint__" = pure (some (.builtin "list_reverseiterator.__length_hint__")):=by rw[Iw,Il];kernel_rfl
section
variable{A:aU}{s:Shared}{r l:Addr}
theorem an9(ty:s.TypeIs (.ref r) "list_reverseiterator")(h:Q false s):wpAny (model prog w) A (Qh (.ref r)) Q E s:=by
 unfold Qh;refine aA (Iv ty agt ?_)
 wp_delta
 refine vo (fun q=>mM q tb_g%) fun _=>?_;refine vo (fun q=>mM q tb_g%) fun _=>?_;refine aA (Iv ty an8 ?_);generalize hid:("list_reverseiterator.__length_hint__" : String)=nm
 wp_delta
 rw[show splitId nm=some ("list_reverseiterator","__length_hint__")from by rw[<-hid];decide +kernel];subst hid;refine aA (Ph (T := "list_reverseiterator") (b:=true) ty (by rw[Yn];kernel_rfl) ?_);refine vo (fun q=>mM q tb_g%) fun _=>?_;refine vo (fun _=>?_) fun q=>mM tb_g% q;refine vo (fun q=>mM q tb_g%) fun _=>?_;exact aF h
def Behind(items:Array Value)(i:Nat)(v:Value):Prop:=items[items.size-1-i]? = some v
theorem acr{items:Array Value}(hh:A.handled=none)(hr:s.heap.IsRevIter r l ((items.size:Int)-1))(hl:s.heap.IsList l items)(hrl:l≠r)(S:Addr)(n1:S≠r)(n2:S≠l)(res:Value)(c:Nat)
  (hS:s⁻¹ S=some { cls:=.type "list",data:=.seq #[] c }) (hz:items.size<=sizeLine)
  (hR:∀h' tk acc d,(∀b o,b≠S->b≠r->s⁻¹ b=some o->h'.get? b=some o)->h'.get? S=some { cls:=.type "list",dict:=none,data:=.seq acc d,slots:=#[] }->Py (Behind items) acc items.size->R (.ok (.ret res)) { s with heap:=h',toks:=tk }):
  wpAny (model prog w) A.in1 (xX (.ref S) (.ref r) res) (fun fin t=>match fin with | .done f=>R (.ok f) t | .again k=>k.quiet=true/\fY (model prog w) A k R t) (fun e t=>R (.error e) t) s:=by
 have W:=Walks.listRev (prog:=prog) (w:=w) (A:=A.in1) hh r l hrl items;have away:S∉[r,l]:=by
  simp only[aP,jc,or_false,not_or];show#[n1,n2]
 unfold xX;refine aA (za (T := "list_reverseiterator") hr.typeIs ?_);have e1:Jk (.ref S) (.ref r)=false:=by simp[Jk,n1]
 have e2:(Value.type "list_reverseiterator" == Value.type "list")=false:=by decide
 have e3:(Value.type "list_reverseiterator" == Value.type "tuple")=false:=by decide
 simp only[e1,e2,e3,aeS,Dv,if_false];refine aA (Yd hr ?_);refine aA (jD (an9 hr.typeIs ?_));refine vo (fun q=>mM q tb_g%) fun _=>aF #[pI PySem.F.plain_extend_loop _,?_];refine akE W.toS hz S away res items.size 0 _ #[] c rfl (cg _) #[cg _,by simpa using hr,hl] hS (amE _) fun t acc d hm hS2 hacc=>?_;rw[Moved.eq_with hm];refine hR t.heap t.toks acc d (fun b o hb hb2 e=>hm.heap b o (fun m=>?_) e) hS2 hacc;rcases aP.mp m with q|q
 ·exact hb q
 ·exact hb2 (bO.mp q)
theorem aoa{items:Array Value}(hh:A.handled=none)(hr:s.heap.IsRevIter r l ((items.size:Int)-1))(hl:s.heap.IsList l items)(hrl:l≠r)(S:Addr)(n1:S≠r)(n2:S≠l)
  (hS:s⁻¹ S=some { cls:=.type "list",data:=.seq #[] }) (hz:items.size<=sizeLine)
  (hR:∀h' tk acc d,(∀b o,b≠S->b≠r->s⁻¹ b=some o->h'.get? b=some o)->h'.get? S=some { cls:=.type "list",dict:=none,data:=.seq acc d,slots:=#[] }->Py (Behind items) acc items.size->R (.ok (.ret .none)) { s with heap:=h',toks:=tk }):
  wpAny (model prog w) A.in1 (cO.«list.__init__» ⟨[.ref S,.ref r],[]⟩) (fun fin t=>match fin with | .done f=>R (.ok f) t | .again k=>k.quiet=true/\fY (model prog w) A k R t) (fun e t=>R (.error e) t) s:=by
 show wpAny _ _ (do let was <-Qi (.ref S);alM (.ref S) (fun _=>#[]);letGo was.toList.reverse;xX (.ref S) (.ref r) .none) _ _ s;refine aA ?_;unfold Qi;refine aA (oK hS rfl (aF ?_));show wpAny _ _ (zm S (fun _=>#[]) >>= fun _=>letGo (#[]:Array Value).toList.reverse >>= fun _=>xX (.ref S) (.ref r) Value.none) _ _ s;refine aA (pJ hS rfl ?_);have hS2:=uq (eO (fun _=>(#[]:Array Value))) hS rfl;have rest:∀b o,b≠S->s⁻¹ b=some o->(s.heap.update S (eO (fun _=>(#[]:Array Value)))).get? b=some o:=fun b o n e=>(pP _ _ (aL n)).trans e;refine aA (Dc ?_);refine acr hh (hr.at fun o e=>rest r o (aL n1) e) (hl.at fun o e=>rest l o (aL n2) e) hrl S n1 n2 .none _ hS2 hz fun h' tk acc d hk hS3 hacc=>?_;exact hR h' tk acc d (fun b o n m e=>hk b o n m (rest b o n e)) hS3 hacc
theorem aob{items:Array Value}(hh:A.handled=none)(hr:s.heap.IsRevIter r l ((items.size:Int)-1))(hl:s.heap.IsList l items)(hrl:l≠r)(hz:items.size<=sizeLine)
  (hQ:∀h' tk acc d,(∀b o,b≠r->s⁻¹ b=some o->h'.get? b=some o)->h'.get? (~~~s)=some { cls:=.type "list",dict:=none,data:=.seq acc d,slots:=#[] }->Py (Behind items) acc items.size->Q (.ref (~~~s)) { s with heap:=h',toks:=tk }):
  wpAny (model prog w) A (call (.type "list") [.ref r]) Q E s:=by
 refine aef (Q₁:=fun o t=>o=.ref (~~~s)/\t={ s with heap:=s.heap.push { cls:=.type "list",data:=.seq #[] } }) PySem.F.called_list (PySem.F.typeCall_list_1 _) PySem.F.entry_list_init (akZ _ #[rfl,rfl]) fun o t ht=>?_;obtain⟨rfl,rfl⟩:=ht;have hS:(s.heap.push { cls:=.type "list",data:=.seq #[] }).get? (~~~s)=some { cls:=.type "list",data:=.seq #[] }:=cJ _ rfl;obtain⟨o1,g1,_⟩:=id hr;obtain⟨o2,g2,_⟩:=id hl;show#[#[_,hS,rfl],PySem.F.args_list_init_2 _ _,aoa (A:=A.in1) hh (hr.at fun o e=>cH _ e) (hl.at fun o e=>cH _ e) hrl _ (jM (aV g1)) (jM (aV g2)) hS hz fun h' tk acc d hk hS2 hacc=>?_];show#[rfl,hQ h' tk acc d (fun b o n e=>hk b o (bJ (aV e)) n (cH _ e)) hS2 hacc]
theorem aak:∀{xs:List V}{us:List Value},us.length=xs.length->(∀(j:Nat)(x:V)(u:Value),xs[j]? = some x->us[j]? = some u->RelV x u)->Vals xs us
 |[],[],_,_=>.nil
 |[],_::_,h,_=>by cases h
 |_::_,[],h,_=>by cases h
 |x::xs,u::us,h,k=>.cons (k 0 x u rfl rfl) (aak (by simpa using h) fun j y v hy hv=>k (j+1) y v (by simpa using hy) (by simpa using hv))
end
section
variable{X:Cx}{p p' pos pos':Pos}
def aoc(K:aH)(ta:TA):TE:=fun σ H Q=>ta σ H fun vs H1=>∃a xs,vs=[.ref a]/\SqL K H1 a xs/\∀q,H1 q=none->Q (.ref q) (upd H1 q (.lst xs.reverse))
theorem agu(hm0:X.mg "list" = none)(hm1:X.mg "reversed" = none)(ha:PA X [l] ta)(hc:X.calm=true)(hg0:Gl X "list" := by rfl)(hg1:Gl X "reversed" := by rfl)
  (he:cj [.Call (.Name "reversed" p') [l] [] pos'] X.env=[(false,eval (.Call (.Name "reversed" p') [l] [] pos') X.env)]:=by rfl) (hs:cj [l] X.env=[(false,eval l X.env)]:=by rfl):
  PE X (.Call (.Name "list" p) [.Call (.Name "reversed" p') [l] [] pos'] [] pos) (aoc X.K ta):=by
 k_dat (Q,h) "g"
 refine Call_ (jW I hg0 hm0 boot_list (zE ?_ he rfl));rw[he];refine vI (Call_ (jW I hg1 hm1 ae4 (zE (thn (ha pos' pins s σ H _ I h) fun us s1 zq=>?_) hs rfl)));obtain⟨vs,H1,I1,r1,q1⟩:=zq;obtain⟨a,xs,e,hq,q⟩:=q1;subst e;obtain⟨u,rfl,ru⟩:=vals1 r1;cases ru;obtain⟨its,rv,pl,hz⟩:=I1.list hq;have hlen:=rv.length;refine ad7 pl.isList (zJ ?_);show wpAny _ _ (call (.type "list") [.ref (~~~s1)]) _ _ _;have hla:a≠ ~~~s1:=by
  obtain⟨o,g,_⟩:=pl.isList;exact bJ (aV g)
 refine aob (items:=its.toArray) (I1.ok.hd hc) #[_,cJ _ rfl,rfl,rfl] (pl.isList.at fun o e=>cH _ e) hla (by rw[bG];lia) fun h' tk acc d hk hS hacc=>?_;have kp:∀b o,s1⁻¹ b=some o->h'.get? b=some o:=fun b o e=>hk b o (bJ (aV e)) (cH _ e);have hsz:(s1.heap.push (revObj a ((its.toArray.size:Int)-1))).objs.size= ~~~s1+1:=Qn _ _;have rr:Vals xs.reverse acc.toList:=aak (by rw[qZ,hacc.1,bG,oH];lia) fun j x u hx hu=>by
  have hj:j<xs.length:=by
   have:=(dI.mp hx).1
   rwa [oH]at this
  rw[Xy hj]at hx;have hb:Behind its.toArray j u:=hacc.2 j u (by rwa[<-pR]);unfold Behind at hb;rw[bG,<-hlen]at hb;obtain⟨v,hv,rvv⟩:=rv.get hx;have:u=v:=bC (hb.symm.trans (by simpa using hv));rwa[this]
 show#[.ref _,_,I1.laid (a:=(s1.heap.push (revObj a ((its.toArray.size:Int)-1))).objs.size) (o:=.lst xs.reverse) (t':=tk) kp (by rw[hsz];exact jN _) ?_,rfl,q _ (I1.hok.fresh (by rw[hsz];exact jN _))];show#[by rw[oH];lia,acc.toList,d,rr,by first|(rwa[Y7])|simpa using hS]
end
section
variable{X:Cx}{σ:St}{H:Hp}{s:Shared}{h':Heap}
theorem Inv.aje{t':Nat}{ch:List Addr}{t:Addr}{o:HO}(I:Inv X pins σ H s)(k:∀b u,b∉ch->s⁻¹ b=some u->h'.get? b=some u)(hf:∀b∈ch,FZ X pins H b)(ht: ~~~s<=t)
  (new:dD X.prog X.w (upd H t o) h' t o):Inv X pins σ (upd H t o) { s with heap:=h',toks:=t' }:=by
 have nit:∀b u,H b=some u->b∉ch:=fun b u e z=>by rw[(hf b z).1]at e;cases e
 have ntt:H t=none:=I.hok.fresh ht;have lt:∀b u,s⁻¹ b=some u->b≠t:=fun b u e=>bJ (eZ (aV e) ht);refine I.step (g':=s.gens) (d':=s.drawn) (ch:=ch) (fun b hb=>#[(hf b hb).2.2.2.1,(hf b hb).2.1,(hf b hb).2.2.2.2.1,(hf b hb).2.2.2.2.2]) (fun b o _ _ hc e _=>k b o hc e) (fun b o _ _ hc e _=>#[o.slots,k b o hc e]) (fun b u _ e n=>by rwa[ao (lt b u e)])
  (fun b o hc e=>#[o,k b o hc e]) (fun b xs e=>by rwa[ao (ak e ntt)]) (fun b q u e=>by rwa[ao (ak e ntt)]) (fun b ps e=>#[#[],by rw[ao (ak e ntt),e];simp]) (fun m hm=>?_) (fun b u e=>?_) I.bare
 ·obtain⟨o,es,ep,ho,r⟩:=hm;show#[o,es,ep,k _ o (fun z=>(hf _ z).2.1 rfl) ho,r]
 ·by_cases hb:b=t
  ·subst hb;rw[aj]at e;cases e;exact new
  ·rw[ao hb]at e;refine(I.hok b u e).stay (fun c v hc q=>k c v ?_ q) (fun c q=>by rwa[ao (ak q ntt)]) fun c xs q=>by rwa[ao (ak q ntt)]
   rcases hc with z|z
   ·rw[z];exact nit b u e
   ·exact nit c _ z
theorem Inv.aqB{t':Nat}{ch:List Addr}(I:Inv X pins σ H s)(k:∀b u,b∉ch->s⁻¹ b=some u->h'.get? b=some u)(hf:∀b∈ch,FZ X pins H b):Inv X pins σ H { s with heap:=h',toks:=t' }:=by
 have nit:∀b u,H b=some u->b∉ch:=fun b u e z=>by rw[(hf b z).1]at e;cases e
 refine I.step (g':=s.gens) (d':=s.drawn) (ch:=ch) (fun b hb=>#[(hf b hb).2.2.2.1,(hf b hb).2.1,(hf b hb).2.2.2.2.1,(hf b hb).2.2.2.2.2]) (fun b o _ _ hc e _=>k b o hc e) (fun b o _ _ hc e _=>#[o.slots,k b o hc e]) (fun b u _ _ n=>n)
  (fun b o hc e=>#[o,k b o hc e]) (fun _ _ e=>e) (fun _ _ _ e=>e) (fun b ps e=>#[#[],by rw[e];simp]) (fun m hm=>?_) (fun b u e=>?_) I.bare
 ·obtain⟨o,es,ep,ho,r⟩:=hm;show#[o,es,ep,k _ o (fun z=>(hf _ z).2.1 rfl) ho,r]
 ·refine(I.hok b u e).stay (fun c v hc q=>k c v ?_ q) (fun _ q=>q) fun _ _ q=>q;rcases hc with z|z
  ·rw[z];exact nit b u e
  ·exact nit c _ z
end
def Itz(a b:Addr):It:=
 #[fun i H=>∃ xs ys,H a=some (.lst xs)/\H b=some (.lst ys)/\i<xs.length/\i<ys.length,
  fun i H x H'=>∃t u v xs ys,H a=some (.lst xs)/\H b=some (.lst ys)/\xs[i]? = some u/\ys[i]? = some v/\H t=none/\x=.ref t/\H'=upd H t (.tup [u,v]),
  fun i H=>∃ xs ys,H a=some (.lst xs)/\H b=some (.lst ys)/\(xs.length<=i\/ys.length<=i)]
theorem arT{c z TI TO i1 i2:Addr}(h:c∈[z,TO,i1,i2]):c∈[z,TI,TO,i1,i2]:=by
 simp only[aP,jc,or_false]at h ⊢;rcases h with h|h|h|h <;> simp[h]
structure Z5(z TI TO i1 i2:Addr):Prop where
 a:TI≠z
 b:TO≠z
 c:i1≠z
 d:i2≠z
 e:TI≠TO
 f:TI≠i1
 g:TI≠i2
 h:TO≠i1
 i:TO≠i2
 j:i1≠i2
theorem Z5.apart{z TI TO i1 i2 a b:Addr}(k:Z5 z TI TO i1 i2){H:Hp}{xs ys:List V}(ha:H a=some (.lst xs))(hb:H b=some (.lst ys))(f:∀c∈[z,TI,TO,i1,i2],H c=none):ZipApart z TI TO i1 i2 a b:=
 #[k.a,k.b,k.c,k.d,k.e,k.f,k.g,k.h,k.i,k.j,ak ha (f z (by simp)),ak ha (f TO (by simp)),ak ha (f i1 (by simp)),ak ha (f i2 (by simp)),ak hb (f z (by simp)),ak hb (f TO (by simp)),ak hb (f i1 (by simp)),ak hb (f i2 (by simp))]
theorem z5_of(n:Nat):Z5 (n+4) (n+2) (n+3) n (n+1):=
 #[(show ¬ (n+2:Nat)=n+4 by lia),(show ¬ (n+3:Nat)=n+4 by lia),(show ¬ (n:Nat)=n+4 by lia),(show ¬ (n+1:Nat)=n+4 by lia),(show ¬ (n+2:Nat)=n+3 by lia),(show ¬ (n+2:Nat)=n by lia),(show ¬ (n+2:Nat)=n+1 by lia),(show ¬ (n+3:Nat)=n by lia),(show ¬ (n+3:Nat)=n+1 by lia),(show ¬ (n:Nat)=n+1 by lia)]
theorem aod{P:aN}{w:World}{K:aH}{elts:List Expr}{x1}{tpos:Pos}(a b z TI TO i1 i2:Addr)(k5:Z5 z TI TO i1 i2):
  Turn P w K (.Tuple elts x1 tpos) (Itz a b) [z,TI,TO,i1,i2] z (fun i h=>IsZip h z TI TO .none/\IsPair h TI (.ref i1) (.ref i2)/\(∃u v,IsPair h TO u v)/\h.IsListIter i1 a i/\h.IsListIter i2 b i) where
 mem:=by simp
 obj:=fun i h st c hc=>by
  obtain⟨hz,hTI,⟨u,v,hTO⟩,⟨o1,h1,_,d1⟩,⟨o2,h2,_,d2⟩⟩:=st;simp only[aP,jc,or_false]at hc;rcases hc with rfl|rfl|rfl|rfl|rfl
  ·show#[_,hz,fun v z=>by cases z]
  ·show#[_,hTI,fun v z=>by cases z]
  ·show#[_,hTO,fun v z=>by cases z]
  ·show#[_,h1,fun v z=>by rw[d1]at z;cases z]
  ·show#[_,h2,fun v z=>by rw[d2]at z;cases z]
 keep:=fun i h h' st k=>by
  obtain⟨hz,hTI,⟨u,v,hTO⟩,⟨o1,h1,r1⟩,⟨o2,h2,r2⟩⟩:=st;show#[k z (by simp) _ hz,k TI (by simp) _ hTI,#[u,v,k TO (by simp) _ hTO],#[o1,k i1 (by simp) _ h1,r1],#[o2,k i2 (by simp) _ h2,r2]]
 item:=by
  walk_at "b"
  subst hP hw hK;obtain⟨hz,hTI,⟨pa,pb,hTO⟩,h1,h2⟩:=st;obtain⟨xs,ys,ea,eb,li,lj⟩:=hg;obtain⟨_,us,n,rv,_,gl⟩:=I.yM ea;obtain⟨_,vs,m,rw',_,gr⟩:=I.yM eb;have ex:xs[i]? = some xs[i]:=eE li;have ey:ys[i]? = some ys[i]:=eE lj;obtain⟨u,hu,ru⟩:=rv.get ex;obtain⟨v,hv,rv'⟩:=rw'.get ey;have D:=k5.apart ea eb fun c hc=>(hf c hc).1;refine wpAny_pyNext_zip_item D hz hTI hTO h1 h2 #[_,gl,rfl,n,rfl] #[_,gr,rfl,m,rfl] (by simpa using hu) (by simpa using hv) fun h' a1 a2 a3 a4 a5 a6 hk=>?_;have nt:H (~~~s)=none:=I.hok.fresh (aK _);have hf4:∀c∈[z,TO,i1,i2],FZ X pins H c:=fun c hc=>hf c (arT hc);have I1:Inv X pins σ (upd H (~~~s) (.tup [xs[i],ys[i]])) { s with heap:=h' }:=I.aje (t':=s.toks) (ch:=[z,TO,i1,i2])
   (fun c o hc e=>hk c o (fun q=>hc (by simp[q])) (fun q=>hc (by simp[q])) (fun q=>hc (by simp[q])) (fun q=>hc (by simp[q])) e) hf4 (aK _)
   #[tb_g%,[u,v],.cons ru (.cons rv' .nil),#[_,a5,rfl,_,rfl]]
  have lts:∀c∈[z,TI,TO,i1,i2],c≠ ~~~s:=fun c hc=>by
   have:∃o,s⁻¹ c=some o:=by
    obtain⟨o1,g1,_⟩:=h1;obtain⟨o2,g2,_⟩:=h2;simp only[aP,jc,or_false]at hc;rcases hc with rfl|rfl|rfl|rfl|rfl
    ·show#[_,hz]
    ·show#[_,hTI]
    ·show#[_,hTO]
    ·show#[_,g1]
    ·show#[_,g2]
   obtain⟨o,e⟩:=this;exact bJ (aV e)
  have fr1:∀c∈[z,TI,TO,i1,i2],(upd H (~~~s) (.tup [xs[i],ys[i]])) c=none:=fun c hc=>by rw[ao (lts c hc)];exact(hf c hc).1
  show#[.ref (~~~s),rfl,wpAny_letOwnedTupleGo_zip a1 fun h2' hz' hs'=>?_]
  k_dat z "d"
  show#[.ref (~~~s),_,I1.turned (t':=s.toks) (fun c ob hb q=>(hs'.2 c hb).trans q) (fr1 z (by simp)) f1 f3 f4 f5,rfl,#[_,_,_,xs,ys,ea,eb,ex,ey,nt,rfl,rfl],#[hz',?_,#[u,v,?_],?_,?_],fr1]
  ·exact(hs'.2 TI k5.a).trans (hk TI _ k5.a k5.e k5.f k5.g hTI)
  ·exact(hs'.2 TO k5.b).trans a2
  ·obtain⟨o,e,r⟩:=a3;show#[o,(hs'.2 i1 k5.c).trans e,r]
  ·obtain⟨o,e,r⟩:=a4;show#[o,(hs'.2 i2 k5.d).trans e,r]
 done:=by
  walk_at "b"
  subst hP hw hK;obtain⟨hz,hTI,⟨pa,pb,hTO⟩,h1,h2⟩:=st;obtain⟨xs,ys,ea,eb,le⟩:=hg;obtain⟨_,us,n,rv,el,gl⟩:=I.yM ea;obtain⟨_,vs,m,rw',er,gr⟩:=I.yM eb;have D:=k5.apart ea eb fun c hc=>(hf c hc).1;have hend:us.toArray[i]? = none\/vs.toArray[i]? = none:=by
   rcases le with z|z
   ·exact .inl (alO (by rwa[bG,<-el]))
   ·exact .inr (alO (by rwa[bG,<-er]))
  refine wpAny_pyNext_zip_end (I.ok.hd hc) D hz hTI hTO h1 h2 #[_,gl,rfl,n,rfl] #[_,gr,rfl,m,rfl] hend fun h' hk=>#[rfl,?_];exact I.aqB (t':=s.toks) (ch:=[z,TO,i1,i2]) (fun c o hc e=>hk c o (fun q=>hc (by simp[q])) (fun q=>hc (by simp[q])) (fun q=>hc (by simp[q])) (fun q=>hc (by simp[q])) e)
   (fun c hc=>hf c (arT hc))
 self:=fun A i s Q E st h=>Yg st.1 h
def iZip(ta:TA):TI:=fun σ H R=>ta σ H fun vs H1=>∃a b xs ys,vs=[.ref a,.ref b]/\H1 a=some (.lst xs)/\H1 b=some (.lst ys)/\R (Itz a b) H1
theorem aoe{X:Cx}{a b:Expr}{ta:TA}{elts:List Expr}{x1}{tpos p pos:Pos}(hg:Gl X "zip")(hm:X.mg "zip" = none)(ha:PA X [a,b] ta)(hs:cj [a,b] X.env=[(false,eval a X.env),(false,eval b X.env)]:=by rfl)
  (hs2:cj [b] X.env=[(false,eval b X.env)]:=by rfl):PI X (.Tuple elts x1 tpos) (.Call (.Name "zip" p) [a,b] [] pos) (iZip ta):=by
 k_dat (R,h) "g"
 refine Call_ (jW I hg hm afa (zE (thn (ha pos pins s σ H _ I h) fun us s1 zq=>?_) (by rw[hs,hs2]) (by rw[hs2];rfl)));obtain⟨vs,H1,I1,r1,q1⟩:=zq;obtain⟨l1,l2,xs,ys,e,e1,e2,q⟩:=q1;subst e;cases r1 with
 |cons r rr =>
  cases rr with
  |cons r' rr =>
   cases rr;cases r;cases r';obtain ⟨_,us,n,rv,_,gl⟩:=I1.yM e1;obtain ⟨_,vs,m,rw',_,gr⟩:=I1.yM e2;refine call_zip_2 (xs:=us.toArray) (ys:=vs.toArray) #[_,gl,rfl,n,rfl] #[_,gr,rfl,m,rfl] fun h' z1 z2 z3 z4 z5 z6 hk=>?_;refine Yg z1 #[_,[~~~s1+4,~~~s1+2,~~~s1+3,~~~s1,~~~s1+1],_,Itz l1 l2,H1,rfl,I1.kept (t':=s1.toks) hk,
    aod l1 l2 (~~~s1+4) (~~~s1+2) (~~~s1+3) (~~~s1) (~~~s1+1) (z5_of _),#[z1,z2,#[_,_,z3],z4,z5],fun c hc=>?_,q]
   have hle: ~~~s1<=c:=by
    simp only[aP,jc,or_false]at hc;rcases hc with rfl|rfl|rfl|rfl|rfl <;> lia
   exact I1.afH hle (I1.hok.fresh hle)
theorem WQ(Pv:Nat->List V->Hp->Prop)(h0:Pv 0 [] (upd H D (.lst [])))
  (hl:∀i zs H,Pv i zs H->H a=some (.lst xs)/\H b=some (.lst ys)/\H D=some (.lst zs)/\zs.length<sizeLine)
  (hs:∀i zs H x y t (ws:List (Option V)),xs[i]? = some x->ys[i]? = some y->Pv i zs H->H t=none->ws.length=k->g (.ref t) (oX σ ws caps) (upd H t (.tup [x,y])) fun σ2 H2=>(∃ws':List (Option V),ws'.length=k/\σ2=oX σ ws' caps)/\te σ2 H2 fun u H4=>H4 D=some (.lst zs)/\Pv (i+1) (zs++[u]) (upd H4 D (.lst (zs++[u]))))
  (hd:∀zs H,Pv (min xs.length ys.length) zs H->Q (.ref D) H)
  (monoG:∀x σ H (R R':St->Hp->Prop),(∀σ H,R σ H->R' σ H)->g x σ H R->g x σ H R')
  (mono:∀σ H (Q Q':VK),(∀y H,Q y H->Q' y H)->te σ H Q->te σ H Q'):
  uF (Itz a b) g k caps wC te σ D Q H:=by
 show#[fun i m zs H=>m=min xs.length ys.length-i/\i<=min xs.length ys.length/\Pv i zs H,#[min xs.length ys.length,by simp,cg _,h0],?_];rintro i m zs H ⟨rfl,hi,p⟩;obtain⟨qa,qb,qd,hz⟩:=hl i zs H p;show#[qd,?_];by_cases hlt:i<min xs.length ys.length
 ·refine .inr #[#[xs,ys,qa,qb,by lia,by lia],hz,fun x H' y ws hw=>?_];obtain⟨t,u,v,xs',ys',ea,eb,ex,ey,ht,rfl,rfl⟩:=y;rw[qa]at ea;cases ea;rw[qb]at eb;cases eb;refine monoG _ _ _ _ _ (fun σ2 H2 h2=>#[h2.1,?_]) (hs i zs H u v t ws ex ey p ht hw);unfold wC;dsimp only;rw[mI rfl];exact mono _ _ _ _ (fun y H3 ⟨a,b⟩=>#[a,min xs.length ys.length-(i+1),by lia,rfl,hlt,b]) h2.2
 ·have e:i=min xs.length ys.length:=by lia
  subst e;exact .inl #[#[xs,ys,qa,qb,by lia],hd zs H p]
inductive Alike (K:aH) (H:Hp):Nat->V->V->Prop where
 |flat {n:Nat} {x:V} (h:yc x=true):Alike K H n x x
 |lst {n:Nat} {a b:Addr} {xs ys:List V} (ha:SqL K H a xs) (hb:SqL K H b ys) (hl:xs.length=ys.length) (h:∀(i:Nat)(x y:V),xs[i]? = some x->ys[i]? = some y->Alike K H n x y):Alike K H (n+1) (.ref a) (.ref b)
 |tup {n:Nat} {a b:Addr} {xs ys:List V} (ha:SqT K H a xs) (hb:SqT K H b ys) (hl:xs.length=ys.length) (h:∀(i:Nat)(x y:V),xs[i]? = some x->ys[i]? = some y->Alike K H n x y):Alike K H (n+1) (.ref a) (.ref b)
theorem acs(h:yc x=true):eqV x x=true:=by
 cases x with
 |non=>rfl
 |bl b=>show(b == b)=true;simp
 |int i=>show(i == i)=true;simp
 |str z=>show(z == z)=true;simp
 |byt _=>cases h
 |flt _=>cases h
 |ref _=>cases h
 |ty _=>cases h
section
variable{X:Cx}{σ:St}{H:Hp}{s:Shared}
theorem all_true(n:Nat):((gY n).all fun _=>true)=true:=by simp
theorem jG{K:aH}(ru:Vals xs us)(rv:Vals ys vs)
  (h:∀(i:Nat)(x y:V),xs[i]? = some x->ys[i]? = some y->Alike K H n x y) (ih:∀(x y:V)(u v:Value),Alike K H n x y->RelV x u->RelV y v->Qs A s u v true):
  ∀j (h1:j<us.toArray.size) (h2:j<vs.toArray.size),Qs A s us.toArray[j] vs.toArray[j] true:=fun j h1 h2=>by
 have e1:j<us.length:=by simpa using h1
 have e2:j<vs.length:=by simpa using h2
 have l1:j<xs.length:=by rwa[ru.length]
 have l2:j<ys.length:=by rwa[rv.length]
 have g1:xs[j]? = some xs[j]:=eE l1;have g2:ys[j]? = some ys[j]:=eE l2;obtain⟨u,k1,r1⟩:=ru.get g1;obtain⟨v,k2,r2⟩:=rv.get g2;have m1:us.toArray[j]=u:=by
  rw[eE e1]at k1;simpa using k1
 have m2:vs.toArray[j]=v:=by
  rw[eE e2]at k2;simpa using k2
 rw[m1,m2];exact ih _ _ _ _ (h j _ _ g1 g2) r1 r2
theorem Rj(I:Inv X pins σ H s):∀n A x y u v,A.units+n<cLine->Alike X.K H n x y->RelV x u->RelV y v->Qs A s u v true
 |0,A,x,y,u,v,hu,h,ru,rv=>by
  cases h with
  |flat f=>have:=afT (A:=A) (s:=s) ru rv f f;rwa[acs f]at this
 |n+1,A,x,y,u,v,hu,h,ru,rv=>by
  have ih:=fun(x y:V) (u v:Value) (k:Alike X.K H n x y) (r1:RelV x u) (r2:RelV y v)=>Rj I n A.in1 x y u v (by show A.units+1+n<cLine;lia) k r1 r2;cases h with
  |flat f=>have:=afT (A:=A) (s:=s) ru rv f f;rwa[acs f]at this
  | @lst _ a b xs ys ha hb hl k =>
   obtain rfl:u=Value.ref a:=ru;obtain rfl:v=Value.ref b:=rv;by_cases e:a=b
   ·subst e;exact afp _
   ·obtain⟨us,r1,p1,_⟩:=I.list ha;obtain⟨vs,r2,p2,_⟩:=I.list hb;have:=amw (A:=A) p1.isList p2.isList (by rw[bG,bG,<-r1.length,<-r2.length,hl]) tb_g% (jG r1 r2 k ih);rw[all_true]at this;exact amq e this
  | @tup _ a b xs ys ha hb hl k =>
   obtain rfl:u=Value.ref a:=ru;obtain rfl:v=Value.ref b:=rv;by_cases e:a=b
   ·subst e;exact afp _
   ·obtain⟨us,r1,p1,_⟩:=I.tuple ha;obtain⟨vs,r2,p2,_⟩:=I.tuple hb;have hs:us.toArray.size=vs.toArray.size:=by rw[bG,bG,<-r1.length,<-r2.length,hl]
    have:=amv (A:=A) p1 p2 tb_g% (jG r1 r2 k ih);rw[all_true,hs]at this;exact amq e (by simpa using this)
def agv(K:aH)(b:Bool):R2:=fun x y H Q=>∃n p q,x=.ref p/\y=.ref q/\n<=40/\Alike K H n x y/\Q (.bl b) H
theorem aof(hu:X.A.units+64<cLine):OpR X (fB .Eq) (agv X.K true):=by
 k_dat (y,u,ry) "i"
 obtain⟨n,p,q,rfl,rfl,hn,k,w⟩:=h;obtain rfl:v=Value.ref p:=rx;obtain rfl:u=Value.ref q:=ry;have ih:=fun m (hm:m+1<=40) (x y:V) (u v:Value) (k:Alike X.K H m x y) (r1:RelV x u) (r2:RelV y v)=>Rj I m X.A.in1 x y u v (by show X.A.units+1+m<cLine;lia) k r1 r2;have fin:EP X pins σ Q (.bool true) s:=#[.bl true,H,I,rfl,w];cases k with
 |flat f=>cases f
 | @lst m a b xs ys ha hb hl k =>
  obtain⟨us,r1,p1,_⟩:=I.list ha;obtain⟨vs,r2,p2,_⟩:=I.list hb;have:=amw (A:=X.A) p1.isList p2.isList (by rw[bG,bG,<-r1.length,<-r2.length,hl]) tb_g% (jG r1 r2 k (ih m tb_g%));rw[all_true]at this;exact this X.prog X.w X.xe _ fin
 | @tup m a b xs ys ha hb hl k =>
  obtain⟨us,r1,p1,_⟩:=I.tuple ha;obtain⟨vs,r2,p2,_⟩:=I.tuple hb;have hs:us.toArray.size=vs.toArray.size:=by rw[bG,bG,<-r1.length,<-r2.length,hl]
  have:=amv (A:=X.A) p1 p2 tb_g% (jG r1 r2 k (ih m tb_g%));rw[all_true,hs]at this;exact(show SeqAt.RcAt X.A s (.ref p) (.ref q) true by simpa using this) X.prog X.w X.xe _ fin
theorem auX(hu:X.A.units+64<cLine):OpR X (fB .NotEq) (agv X.K false):=by
 k_dat (y,u,ry) "i"
 obtain⟨n,p,q,rfl,rfl,hn,k,w⟩:=h;obtain rfl:v=Value.ref p:=rx;obtain rfl:u=Value.ref q:=ry;have ih:=fun m (hm:m+1<=40) (x y:V) (u v:Value) (k:Alike X.K H m x y) (r1:RelV x u) (r2:RelV y v)=>Rj I m X.A.in1 x y u v (by show X.A.units+1+m<cLine;lia) k r1 r2;have fin:EP X pins σ Q (.bool false) s:=#[.bl false,H,I,rfl,w];cases k with
 |flat f=>cases f
 | @lst m a b xs ys ha hb hl k =>
  obtain⟨us,r1,p1,_⟩:=I.list ha;obtain⟨vs,r2,p2,_⟩:=I.list hb;have:=atY (A:=X.A) p1.isList p2.isList (by rw[bG,bG,<-r1.length,<-r2.length,hl]) tb_g% (jG r1 r2 k (ih m tb_g%));rw[all_true]at this;exact this X.prog X.w X.xe _ fin
 | @tup m a b xs ys ha hb hl k =>
  obtain⟨us,r1,p1,_⟩:=I.tuple ha;obtain⟨vs,r2,p2,_⟩:=I.tuple hb;have hs:us.toArray.size=vs.toArray.size:=by rw[bG,bG,<-r1.length,<-r2.length,hl]
  have:=atX (A:=X.A) p1 p2 tb_g% (jG r1 r2 k (ih m tb_g%));rw[all_true,hs]at this;exact(show SeqAt.RcNeAt X.A s (.ref p) (.ref q) false by simpa using this) X.prog X.w X.xe _ fin
end
section
variable{X:Cx}
def rSumL(K:aH):List V->Hp->VK->Prop:=fun xs H Q=>∃(a:Addr)(ns:List Int),xs=[V.ref a]/\SqL K H a (ns.map V.int)/\Q (.int ns.sum) H
theorem JT(hc:X.calm=true):gA X (.builtin "sum") (rSumL X.K):=by
 walk_at "l"
 obtain⟨a,ns,rfl,ha,q⟩:=h
 walk_at "x"
 cases ru;obtain⟨its,rv,p,hz⟩:=I.list ha;have hi:=intsAre_of rv;have hl:=p.isList;obtain⟨ys,e⟩:=hi.allInts.items;have hns:ns=ys.toList.map (·.1):=by rw[<-hi.numsOf,<-akY,<-e]
 rw[e]at hl;refine sum_intListG (I.ok.hd hc) hl fun h' tk t' hk=>#[.int ns.sum,H,I.kept hk,#[t',?_],q];rw[preSum_eq,uh (by simp),hns]
end
theorem Li{K:aH}{xs:List V}(Pv:Nat->List V->Hp->Prop)(h0:Pv 0 [] (upd H D (.lst [])))
  (hl:∀i ys H,i<=xs.length->Pv i ys H->SqL K H a xs/\H D=some (.lst ys)/\ys.length<sizeLine)
  (hs:∀i ys H x,xs[i]? = some x->Pv i ys H->tt (z8 σ (some x) caps) H fun b H2=>if b=true then te (z8 σ (some x) caps) H2 fun y H3=>H3 D=some (.lst ys)/\Pv (i+1) (ys++[y]) (upd H3 D (.lst (ys++[y])))else H2 D=some (.lst ys)/\Pv (i+1) ys H2) (hd:∀ys H,Pv xs.length ys H->Q (.ref D) H)
  (monoT:∀σ H (R R':Bool->Hp->Prop),(∀b H,R b H->R' b H)->tt σ H R->tt σ H R')
  (mono:∀σ H (Q Q':VK),(∀y H,Q y H->Q' y H)->te σ H Q->te σ H Q'):
  oY (Itl K a) caps tt te σ D Q H:=by
 show#[fun i m ys H=>m=xs.length-i/\i<=xs.length/\Pv i ys H,#[xs.length,by simp,cg _,h0],?_];rintro i m ys H ⟨rfl,hi,p⟩;obtain⟨sq,q,z⟩:=hl i ys H hi p;show#[q,?_];by_cases hlt:i<xs.length
 ·refine .inr #[#[xs,xs[i],sq,by simp[hlt]],z,fun x H' y=>?_];obtain⟨e,y⟩:=y;subst e;refine monoT _ _ _ _ (fun b H2 hb=>?_) (hs i ys _ x (y xs sq) p);cases b with
  |true =>
   rw[mI rfl]at hb ⊢;exact mono _ _ _ _ (fun y H3 ⟨a,b⟩=>#[a,xs.length-(i+1),by lia,rfl,hlt,b]) hb
  |false =>
   rw[mB tb_g%]at hb ⊢;show#[hb.1,xs.length-(i+1),by lia,rfl,hlt,hb.2]
 ·have e:i=xs.length:=by lia
  subst e;exact .inl #[#[xs,sq,aK _],hd ys H p]
def yO(te:TE):Prop:=∀σ H (Q Q':VK),(∀y H,Q y H->Q' y H)->te σ H Q->te σ H Q'
theorem aal(hr:∀x y H (Q Q':VK),(∀y H,Q y H->Q' y H)->r x y H Q->r x y H Q')(ma:yO ta)(mb:yO tb):yO (tOp r ta tb):=fun σ H Q Q' hq h =>
 ma σ H _ _ (fun x H1 h1=>mb σ H1 _ _ (fun y H2 h2=>hr x y H2 Q Q' hq h2) h1) h
theorem Bq {K:aH}  (ma:yO ta) (mb:yO tb):yO (tOp (QW K) ta tb):=aal (fun x y H Q Q' hq h2=>by
 rcases h2 with⟨a1,a2,a3,a4,a5,a6,a7,a8,q⟩|⟨a1,a2,a3,a4,a5,a6,a7,a8,q⟩|⟨a1,a2,a3,a4,q⟩
 ·exact .inl #[a1,a2,a3,a4,a5,a6,a7,a8,hq _ _ q]
 ·exact .inr (.inl #[a1,a2,a3,a4,a5,a6,a7,a8,hq _ _ q])
 ·exact .inr (.inr #[a1,a2,a3,a4,hq _ _ q])) ma mb
theorem mD   (ma:yO ta) (mb:yO tb):yO (tOp (rI0 f) ta tb):=aal (fun x y H Q Q' hq h2=>by
 obtain ⟨a1,a2,a3,a4,q⟩:=h2;show#[a1,a2,a3,a4,hq _ _ q]) ma mb
theorem bW(i:Nat):yO (tVar i):=fun σ H Q Q' hq ⟨v,e,q⟩=>#[v,e,hq _ _ q]
theorem Ej(v:V):yO (tC v):=fun σ H Q Q' hq q=>hq _ _ q
def WR(ta:TA):Prop:=∀σ H (Q Q':List V->Hp->Prop),(∀xs H,Q xs H->Q' xs H)->ta σ H Q->ta σ H Q'
theorem uK:WR aiM:=fun σ H Q Q' hq q=>hq _ _ q
theorem iW(ma:yO ta)(mr:WR tr):WR (Lf ta tr):=fun σ H Q Q' hq h=>ma σ H _ _ (fun x H1 h1=>mr σ H1 _ _ (fun xs H2 h2=>hq _ _ h2) h1) h
theorem acu(ma:WR ta):yO (tTup ta):=fun σ H Q Q' hq h=>ma σ H _ _ (fun xs H1 h1=>#[h1.1,fun p hp=>hq _ _ (h1.2 p hp)]) h
section
variable{X:Cx}{tg:Expr}
end
section
variable{X:Cx}{p cpos apos pos:Pos}
end
def MonoT(tt:TT):Prop:=∀σ H (R R':Bool->Hp->Prop),(∀b H,R b H->R' b H)->tt σ H R->tt σ H R'
theorem lN  (m:yO te):MonoT (am4 te):=fun σ H R R' hr h=>m σ H _ _ (fun y H1 h1=>by
 obtain ⟨b,e,r⟩:=h1;show#[b,e,hr _ _ r]) h
theorem Rm{K:aH}(i j:Nat):∀x σ H (R R':St->Hp->Prop),(∀σ H,R σ H->R' σ H)->amU K 2 (FW (mQ i) (FW (mQ j) amT)) x σ H R->amU K 2 (FW (mQ i) (FW (mQ j) amT)) x σ H R':=fun x σ H R R' hr h=>by
 obtain⟨a,xs,e,sq,hl,v,r,e1,v2,r2,e2,e3,q⟩:=h;show#[a,xs,e,sq,hl,v,r,e1,v2,r2,e2,e3,hr _ _ q]
section
variable{X:Cx}
end
theorem ahS(hr:∀vs H (Q Q':VK),(∀y H,Q y H->Q' y H)->r vs H Q->r vs H Q')(ma:WR ta):yO (tCB r ta):=fun σ H Q Q' hq h=>ma σ H _ _ (fun vs H1 h1=>hr vs H1 Q Q' hq h1) h
theorem Ro {K:aH}  (ma:WR ta):yO (tCB (ahE K) ta):=ahS (fun vs H Q Q' hq h=>by
 rcases h with⟨x,n,e,l,q⟩|⟨a,kvs,e,r,q⟩
 ·exact .inl #[x,n,e,l,hq _ _ q]
 ·exact .inr #[a,kvs,e,r,hq _ _ q]) ma
theorem uL {K:aH}   (ma:yO ta):yO (abP K ta f):=fun σ H Q Q' hq h=>ma σ H _ _ (fun x H1 h1=>by
 obtain ⟨a,C,dx,fs,v,e,h2,c,n,l,q⟩:=h1;show#[a,C,dx,fs,v,e,h2,c,n,l,hq _ _ q]) h
section
variable{X:Cx}
end
theorem Ab(ns:List Int)(lo hi:Option Int):∃ms:List Int,BL (ns.map V.int) lo hi=ms.map V.int/\ms.length<=ns.length/\∀m∈ms,m∈ns:=by
 show#[(ns.drop (HT.sIx (ns.map V.int).length 0 lo)).take (HT.sIx (ns.map V.int).length (ns.map V.int).length hi-HT.sIx (ns.map V.int).length 0 lo),?_,?_,fun m hm=>XD (adX hm)]
 ·unfold BL;rw[List.map_take,O9]
 ·rw[eX,O5];lia
theorem int_at{ns:List Int}{i:Nat}{y:V}(h:(ns.map V.int)[i]? = some y):∃z,ns[i]? = some z/\y=V.int z:=by
 rw[cP]at h;cases e:ns[i]? with
 |none=>rw[e]at h;cases h
 |some z=>rw[e]at h;show#[z,rfl,(bC h).symm]
theorem acv{xs:List V}(h:n<=xs.length):BL xs (some (n:Int)) none=xs.drop n:=by
 unfold BL;rw[HT.anc,HT.ap2,PX h,uh (by rw[O5];exact aK _)]
theorem aam{ns:List Int}(h0:0<=i)(h1:i<(ns.length:Int)):∃v,v∈ns/\atI (ns.map V.int) i=some (.int v):=by
 have e:ns[i.toNat]? = some (ns[i.toNat]'tb_g%):=eE tb_g%;show#[_,mv e,?_];have:=fu (xs:=ns.map V.int) (j:=i.toNat) (v:=.int (ns[i.toNat]'tb_g%)) (by rw[cP,e];rfl)
 rwa [Ji h0]at this
theorem four{a b c d v:Int}(h:v∈[a,b,c,d]):v=a\/v=b\/v=c\/v=d:=by simpa using h
theorem aog(f:Str)(v:V):bZ f v []=[(f,v)]:=rfl
theorem aqC(f:Str)(v:V)(r:List (Str × V))(u:V):bZ f v ((f,u)::r)=(f,v)::r:=by
 unfold bZ;rw[mI rfl]
theorem aqD(h:¬ g=f)(v:V)(r:List (Str × V))(u:V):bZ f v ((g,u)::r)=(g,u)::bZ f v r:=by
 rw[bZ,mB h]
theorem cG{f m:Str}{v:V}{r:List (Str × V)}(h:¬ m=f):((f,v)::r).lookup m=r.lookup m:=by
 rw[ad2];rw[xk.mpr h]
theorem acw:decide (V.ref a=V.non)=false:=xj (by intro z;cases z)
theorem acy:decide (V.non=V.non)=true:=mP rfl
theorem d9(b:But p H H')(h:H' a=none)(n:a≠p):H a=none:=by
 cases e:H a with
 |none=>rfl
 |some o=>rw[b a o e n]at h;cases h
section
variable{X:Cx}
def aoh(K:aH):R2:=fun x y H Q=>∃a b xs ys,x=.ref a/\y=.ref b/\SqL K H a xs/\SqL K H b ys/\xs.length≠ys.length/\Q (.bl false) H
theorem acz(hu:X.A.units+64<cLine):OpR X (fB .Eq) (aoh X.K):=by
 k_dat (y,u,ry) "i"
 obtain⟨a,b,xs,ys,rfl,rfl,ha,hb,hl,w⟩:=h;obtain rfl:v=Value.ref a:=rx;obtain rfl:u=Value.ref b:=ry;obtain⟨us,r1,p1,_⟩:=I.list ha;obtain⟨vs,r2,p2,_⟩:=I.list hb;have l1:=r1.length;have l2:=r2.length;have:=atf (A:=X.A) (s:=s) p1.isList p2.isList (by rw[bG,bG,bne_iff_ne];lia) tb_g%;exact this X.prog X.w X.xe _ #[.bl _,H,I,rfl,w]
end
theorem aoi{X:Cx}(hu:X.A.units+64<cLine):OpR X (fB .Eq) (fun x y H Q=>agv X.K true x y H Q\/aoh X.K x y H Q):=fun pins s σ H x y v u Q I rx ry h =>
 h.elim (aof hu pins s σ H x y v u Q I rx ry) (acz hu pins s σ H x y v u Q I rx ry)
end L2
namespace Dec
abbrev dg(n:Nat):List Char:=Nat.toDigits 10 n
theorem Gy(h:n<10):dg n=[Dq n]:=Nat.toDigits_of_lt_base h
theorem WT(h:10<=n):dg n=dg (n / 10)++dg (n % 10):=by
 have:=Nat.toDigits_append_toDigits (b:=10) (n:=n / 10) (d:=n % 10) tb_g% tb_g% tb_g%;rw[show 10*(n / 10)+n % 10=n by lia]at this;exact this.symm
theorem agw(n:Nat):(dg (n % 10)).length=1:=by rw[Gy tb_g%];rfl
def pad(k m:Nat):List Char:=jd (k-(dg m).length) '0'++dg m
theorem Ac:∀(k:Nat){m:Nat},1<=k->m<10 ^ k->(dg m).length<=k
 |0,_,h,_=>by lia
 |k+1,m,_,h=>by
  rcases iy m 10 with l|l
  ·rw[Gy l];exact alm (cg _)
  ·rw[WT l,cu,agw];have hk:1<=k:=by
    rcases Jg k with rfl|z
    ·rw[lG,Nat.pow_one]at h;lia
    ·exact z
   have:=Ac k hk (m:=m / 10) (by rw[jy]at h;lia);lia
theorem aoj(hk:1<=k)(h:m<10 ^ (k+1)):pad (k+1) m=pad k (m / 10)++dg (m % 10):=by
 unfold pad;rcases iy m 10 with l|l
 ·rw[show m / 10=0 by lia,show m % 10=m by lia,Gy l,Gy (show 0<10 by decide)];show jd (k+1-1) '0'++[Dq m]=jd (k-1) '0'++['0']++[Dq m];rw[show k+1-1=(k-1)+1 by lia,O3]
 ·have:=Ac k hk (m:=m / 10) (by rw[jy]at h;lia);rw[WT l,cu,agw,<-iB];rw[show k+1-((dg (m / 10)).length+1)=k-(dg (m / 10)).length by lia]
theorem acA(hn:0<n):∀(k:Nat){m:Nat},1<=k->m<10 ^ k->dg (n*10 ^ k+m)=dg n++pad k m
 |0,_,h,_=>by lia
 |k+1,m,_,h=>by
  have e:(n*10 ^ (k+1)+m) / 10=n*10 ^ k+m / 10:=by rw[jy,<-vD];lia
  have e2:(n*10 ^ (k+1)+m) % 10=m % 10:=by rw[jy,<-vD];lia
  have big:10<=n*10 ^ (k+1)+m:=by
   have:=alp hn (PN (show 0<10 by decide) (show 1<=k+1 by lia));lia
  rw[WT big,e,e2];rcases Jg k with rfl|z
  ·rw[YS,Nat.mul_one]at *;have hm:m<10:=by simpa using h
   rw[show m / 10=0 by lia,Qc,show m % 10=m by lia];unfold pad;rw[Gy hm];rfl
  ·rw[acA hn k z (by rw[jy]at h;lia),aoj z h,iB]
end Dec
namespace Dec
open PySem
def tx(cs:List Char):Str:=#[(cs.map jA).toArray]
theorem tO(cs:List Char):(tx cs).length=cs.length:=by
 show((cs.map jA).toArray).size=_;rw[bG,aD]
theorem ahT(n:Nat):(YW n).toList=dg n:=by
 unfold YW;exact String.toList_ofList
theorem oZ(n:Nat):aW (toString (n:Int))=tx (dg n):=by
 rw[alg,show toString (n:Int)=YW n from rfl,ahT];rfl
theorem GC{n:Nat}(h:0<n):aW (toString (-(n:Int)))=tx ('-'::dg n):=by
 obtain⟨m,rfl⟩:∃m,n=m+1:=#[n-1,by lia];rw[alg,show toString (-((m+1:Nat):Int)) = "-" ++ YW (m+1)from rfl,String.toList_append,ahT];rfl
theorem acB(h:c∈dg n):48<=c.toNat/\c.toNat<=57:=by
 have:=Nat.isDigit_of_mem_toDigits tb_g% tb_g% h;simp[Char.isDigit]at this;show#[this.1,this.2]
theorem ahU(n:Nat):dg n≠[]:=by
 rcases iy n 10 with l|l
 ·rw[Gy l];exact kZ _ _
 ·rw[WT l];intro e;have:=mN fX e;rw[cu,agw]at this;simp at this
theorem aok{k m:Nat}(hk:1<=k)(h:m<10 ^ k):Zt (tx (dg m)) k=tx (pad k m):=by
 have hl:=Ac k hk h;unfold Zt pad;rw[tO];by_cases e:(k:Int)<=(dg m).length
 ·rw[mI e,show k-(dg m).length=0 by lia];rfl
 ·rw[mB e];unfold zfilled;obtain⟨c,cs,ec⟩:=adR (ahU m);have hc:=acB (n:=m) (c:=c) (by rw[ec];exact bY);have e0:(tx (dg m)).cps[0]? = some c.toNat:=by rw[ec];rfl
  rw[e0];have:(match some c.toNat with|some 43=>true|some 45=>true|_=>false)=false:=by
   split
   ·rename_i z;have:=bC z;lia
   ·rename_i z;have:=bC z;lia
   ·rfl
  split
  ·rename_i z;have:=bC z;lia
  ·rename_i z;have:=bC z;lia
  ·unfold asO tx;rw[aeJ];apply mN Str.mk;apply Qj.mp;simp
theorem WW:∀(ys:List Str)(acc:Array Nat),ys.foldl (fun acc p=>acc++(#[#[]]:Str).cps++p.cps) acc=acc++(ys.flatMap fun y=>y.cps.toList).toArray
 |[],acc=>by simp
 |y::ys,acc=>by
  rw[CJ,WW ys,yR];apply Qj.mp;simp
theorem join_none(css:List (List Char)):cZ #[#[]] (css.map tx)=tx css.flatten:=by
 show Zy #[#[]] (css.map tx)=_;unfold Zy;cases css with
 |nil=>rfl
 |cons c cs =>
  rw[cR];show(#[(cs.map tx).foldl (fun acc p=>acc++(#[#[]]:Str).cps++p.cps) (tx c).cps]:Str)=_;rw[WW];apply mN Str.mk;apply Qj.mp;unfold tx;simp only[List.flatMap,dB,Jl,List.flatten_cons];rw[aR,List.map_flatten];rfl
end Dec
namespace L2
open PySem PySem.Spec PyProof.Rows
section
variable{X:Cx}
theorem aan:∀{ys:List Str}{its:List Value},Vals (ys.map V.str) its->StrsAre its ys
 |[],_,h=>by cases h;exact .nil
 |y::ys,_,h=>by
  cases h with
  |cons r1 r2=>obtain⟨t,rfl⟩:=r1;exact .cons _ _ (aan r2)
def rJoin(K:aH):V->List V->Hp->VK->Prop:=fun x vs H Q=>∃sep a ys,x=.str sep/\vs=[.ref a]/\SqL K H a (ys.map V.str)/\sep.length<=16/\(ys.map (·.length)).sum+ys.length<=1048576/\Q (.str (cZ sep ys)) H
theorem aao:MtR X "str.join" (rJoin X.K):=by
 k_dat (vs,us,rv) "i"
 obtain⟨sep,a,ys,rfl,rfl,hs,h16,hw,q⟩:=h
 k_dat (t,v,sep,rx) "w"
 obtain⟨u,rfl,ru⟩:=vals1 rv;cases ru;obtain⟨its,r,p,hz⟩:=I.list hs;exact join_listW p.isList (aan r) h16 hw fun t' k=>#[.str _,H,I.tok k,#[t',rfl],q]
def auY:V->List V->Hp->VK->Prop:=fun x vs H Q=>∃z i,x=.str z/\vs=[.int i]/\PadOk i=true/\Q (.str (Zt z i)) H
theorem aol:MtR X "str.zfill" auY:=by
 k_dat (vs,us,rv) "i"
 obtain⟨z,i,rfl,rfl,hp,q⟩:=h
 k_dat (t,v,z,rx) "w"
 obtain⟨u,rfl,ru⟩:=vals1 rv
 k_dat (k,ru) "y"
 exact at3 hp fun t' k=>#[.str _,H,I.tok k,#[t',rfl],q]
theorem ajf:gA X (.builtin "abs") (fun xs H Q=>∃i,xs=[.int i]/\Q (.int (if i<0 then -i else i)) H):=by
 walk_at "l"
 obtain⟨i,rfl,q⟩:=h;obtain⟨u,rfl,t,rfl⟩:=vals1 r;exact call_abs_int fun u k=>#[.int _,H,I.tok k,#[u,rfl],q]
def arU(_ j:Int):Prop:=0<j/\j<2 ^ 200
theorem aom:OpR X (mZ .FloorDiv) (rI arU fun i j=>.int (i / j)):=
 opI (C:=arU) (g:=fun i j=>i / j) fun i j t u s Q E hc h=>by
  obtain⟨h0,h1⟩:=hc;have hl:j.natAbs.log2<9000:=by
   have h3:j.natAbs≠0:=by lia
   have h2:j.natAbs<2 ^ 200:=by lia
   have:=(als h3).mpr h2;lia
  refine al5 tb_g% ?_ (.inl (PyProof.noPylong_of_log2 hl));rwa[alu i tb_g%]
end
section
variable{A:aU}{s:Shared}{r l:Addr}
theorem acC{items:Array Value}(hh:A.handled=none)(hr:s.heap.IsRevIter r l ((items.size:Int)-1))(hl:s.heap.IsList l items)(hrl:l≠r)(hz:items.size<=sizeLine)
  (q:∀h' tk acc,(∀b o,b≠r->s⁻¹ b=some o->h'.get? b=some o)->Py (Behind items) acc items.size->Q acc.toList { s with heap:=h',toks:=tk }):wpAny (model prog w) A (Px (.ref r)) Q E s:=by
 obtain ⟨o1,g1,_⟩:=id hr;obtain ⟨o2,g2,_⟩:=id hl;unfold Px;refine aA (aed (pH PySem.F.entry_proto_collect ?_));rw [q9 PySem.F.plain_proto_collect _];show wpAny _ A.in1 (Yz [] >>= fun l=>again (.builtin "list.__iadd__" ⟨[l,.ref r],[]⟩)) _ _ s;refine aA (yV ?_);refine aF ⟨pI ame _,pH PySem.F.entry_list_iadd ?_⟩;rw [q9 ame _];have hS:(s.heap.push { cls:=.type "list",data:=.seq #[] }).get? (~~~s)=some { cls:=.type "list",data:=.seq #[] }:=cJ _ rfl;show wpAny _ A.in1 (xX (.ref (~~~s)) (.ref r) (.ref (~~~s))) _ _ { s with heap:=s.heap.push { cls:=.type "list",data:=.seq #[] } };refine acr (R:=fun res s'=>match res with
  | Except.ok (Flow.ret v)=>wpAny (model prog w) A (match v with
   | .ref a=>load a >>= fun o=>match o.data with
    | .seq xs _=>pure xs.toList
    |_=>Pn "internal:collect"
   | _=>Pn "internal:collect") Q E s'
  |Except.ok _=>False
  | Except.error e=>E e s') (s:={ s with heap:=s.heap.push { cls:=.type "list",data:=.seq #[] } }) hh (hr.at fun o e=>cH _ e) (hl.at fun o e=>cH _ e) hrl _ (jM (aV g1)) (jM (aV g2)) _ 0 hS hz fun h' tk acc d hk hS2 hacc=>?_
 exact aA (aep hS2 (aF (q h' tk acc (fun b o n e=>hk b o (bJ (aV e)) n (cH _ e)) hacc)))
theorem aon{x:Str}{items:Array Value}(hh:A.handled=none)(hr:s.heap.IsRevIter r l ((items.size:Int)-1))(hl:s.heap.IsList l items)(hrl:l≠r)(hz:items.size<=sizeLine)
  (hs:∀acc,Py (Behind items) acc items.size->StrsAre acc.toList zs) (h16:x.length<=16) (hw:(zs.map (·.length)).sum+zs.length<=1048576)
  (q:∀h' t' k,(∀b o,b≠r->s⁻¹ b=some o->h'.get? b=some o)->Q (.str (cZ x zs) t') { s with heap:=h',toks:=k }):
  wpAny (model prog w) A (call (.builtin "str.join") [.str x t,.ref r]) Q E s:=by
 apply Pq;apply ad6 Jp.plain PySem.F.entry_str_join;refine Jp.check _ _ _ _ _ _ _ _ (zf _ _ _) (PySem.F.args_str_join_2 _ _) ?_;rw[join_tree_other];refine aA (za (T := "list_reverseiterator") hr.typeIs ?_);show wpAny _ A.in1 ((vB (.ref r)).tryCatch _ >>= fun it=>Px it >>= fun its=>joinTail x its) _ _ s;refine aA (CZ (Yd hr ?_));refine aA (acC (A:=A.in1) hh hr hl hrl hz fun h' tk acc hk hacc=>?_);obtain⟨ps,e1,e2⟩:=strsAre_values (hs acc hacc);subst e2;rw[e1];have ok:=joinOk_of_weight hw h16;unfold JoinOk at ok;rw[Bool.not_eq_true']at ok;have g:Gives (joinTail x (Yw ps)) (joinMade x ps):=by
  cases ps with
  |nil=>exact aeg x [] ok
  |cons a1 r1 =>
   cases r1 with
   |nil=>exact aeg x [a1] ok
   |cons a2 r2=>exact aeg x (a1::a2::r2) ok
 exact g prog w A (wants Q E) _ (post_join ps #[joinFit_length ok,fun t' k=>q h' t' k hk])
end
section
variable{X:Cx}{o l:Expr}{to:TE}{p' apos pos' cpos:Pos}
def aoo(K:aH)(to:TE)(ta:TA):TE:=fun σ H Q=>to σ H fun x H1=>∃sep:Str,x=.str sep/\ta σ H1 fun vs H2=>∃(a:Addr)(ys:List Str),vs=[.ref a]/\SqL K H2 a (ys.map V.str)/\sep.length<=16/\(ys.map (·.length)).sum+ys.length<=1048576/\Q (.str (cZ sep ys.reverse)) H2
theorem agx(hm1:X.mg "reversed" = none)(ho:PE X o to)(ha:PA X [l] ta)(hc:X.calm=true)(hg1:Gl X "reversed" := by rfl)
  (hbase:yW o "join" X.env (eval o X.env)=eval o X.env:=by rfl)
  (hfew:((fK cpos (cj [.Call (.Name "reversed" p') [l] [] pos'] X.env)).all (fun x=>!x.1) && (Jb cpos (IK [] X.env)).all (fun x=>x.1.isSome)
   && decide ([Expr.Call (.Name "reversed" p') [l] [] pos'].length+([]:List rR).length+(if ([]:List rR).isEmpty then 0 else 1)<30))=true:=by rfl)
  (hline:(apos.endLine == cpos.line)=true:=by rfl) (he:cj [.Call (.Name "reversed" p') [l] [] pos'] X.env=[(false,eval (.Call (.Name "reversed" p') [l] [] pos') X.env)]:=by rfl) (hs:cj [l] X.env=[(false,eval l X.env)]:=by rfl):
  PE X (.Call (.Attribute o "join" apos) [.Call (.Name "reversed" p') [l] [] pos'] [] cpos) (aoo X.K to ta):=by
 k_dat (Q,h) "g"
 refine akC hbase hfew hline rfl (thn (ho pins s σ H _ I h) fun v s1 zq=>?_);obtain⟨x,H1,I1,rx,q1⟩:=zq;obtain⟨sep,rfl,q1⟩:=q1
 k_dat (t,v,sep,rx) "w"
 refine⟨"str","str.join",Lb,Jp,Zw,zf _ _ _,(fun _ e=>nomatch e),?_⟩;rw[he];refine afj rfl (afk (vI (Call_ (jW I1 hg1 hm1 ae4 (zE (thn (ha pos' pins s1 σ H1 _ I1 q1) fun us s2 zq=>?_) hs rfl)))));obtain⟨vs,H2,I2,r2,q2⟩:=zq;obtain⟨a,ys,e,hq,h16,hw,q⟩:=q2;subst e;obtain⟨u,rfl,ru⟩:=vals1 r2;cases ru;obtain⟨its,rv,pl,hz⟩:=I2.list hq;have hlen:=rv.length;refine ad7 pl.isList (zJ ?_);show wpAny _ _ (call (.builtin "str.join") [.str sep t,.ref (~~~s2)]) _ _ _;have hla:a≠ ~~~s2:=by
  obtain⟨o,g,_⟩:=pl.isList;exact bJ (aV g)
 refine aon (items:=its.toArray) (zs:=ys.reverse) (I2.ok.hd hc) #[_,cJ _ rfl,rfl,rfl] (pl.isList.at fun o e=>cH _ e) hla (by rw[bG];lia) (fun acc hacc=>?_) h16 (by rwa[um,akr,oH]) fun h' t' k hk=>?_
 ·refine aan ?_;rw[um];refine aak (by rw[qZ,hacc.1,bG,oH];lia) fun j x u hx hu=>?_;have hj:j<(ys.map V.str).length:=by
   have:=(dI.mp hx).1
   rwa [oH]at this
  rw[Xy hj]at hx;have hb:Behind its.toArray j u:=hacc.2 j u (by rwa[<-pR]);unfold Behind at hb;rw[bG,<-hlen]at hb;obtain⟨v,hv,rvv⟩:=rv.get hx;have:u=v:=bC (hb.symm.trans (by simpa using hv));rwa[this]
 ·show#[.str _,H2,I2.kept (t':=k) fun b o e=>hk b o (bJ (aV e)) (cH _ e),#[t',rfl],q]
end
section
variable{X:Cx}
def aop(K:aH):V->List V->Hp->VK->Prop:=fun x vs H Q=>∃l b xs zs,x=.ref l/\vs=[.ref b]/\H l=some (.lst xs)/\SqT K H b zs/\xs.length+zs.length<=sizeLine/\Q .non (upd H l (.lst (xs++zs)))
theorem agy:MtM X "list.extend" (aop X.K):=by
 k_dat (vs,us,rv) "i"
 obtain⟨l,b,xs,zs,rfl,rfl,hH,hB,hz,q⟩:=h;cases rx;obtain⟨u,rfl,ru⟩:=rv.one;cases ru;obtain⟨z,its,n,r,hl,e⟩:=I.yM hH;obtain⟨its2,r2,⟨o2,g2,c2,n2,d2⟩,z2⟩:=I.tuple hB;have hl2:=r2.length;have h1:its.toArray.size+its2.toArray.size<=sizeLine:=by rw[bG,bG];lia
 refine xW F.slot_list_extend #[_,e,rfl] F.entry_list_extend ?_ (F.args_list_extend_2 _ _);show wpAny _ _ (xX (.ref l) (.ref b) .none) _ _ s;unfold xX Qi;refine aA (za (T := "tuple") #[o2,g2,c2] ?_);rw[mI (by rw[show(Value.type "tuple" == Value.type "tuple")=true by decide,Bool.or_true])];refine aA (aA (oK g2 d2 (aF ?_)));refine aA (aA (oK e rfl (aF ?_)));rw[mB (by rw[abS h1,alH];exact gM)];refine aA (Zg e rfl ?_ (by rw[bG];lia) (by rw[aeZ];lia));refine aF #[_,rfl,?_];show#[.non,_,I.aiP (its':=its++its2) hH e (by simp) (r.append r2) ?_,rfl,q];rw[cu];lia
end
end L2
namespace Dec
open PySem PySem.NumText
theorem auZ(n:Nat):digitsVal ((dg n).map jA)=n:=by
 induction n using Dp with
 |_ n ih =>
  have one:∀m,m<10->(Dq m).toNat-48=m:=by decide
  rcases iy n 10 with l|l
  ·rw[Gy l];have:=one n l;show 0*10+((Dq n).toNat-48)=n;lia
  ·rw[WT l,Gy (n:=n % 10) tb_g%,aR];show digitsVal (_++[(Dq (n % 10)).toNat])=n;rw[digitsVal_snoc,ih (n / 10) tb_g%,one (n % 10) tb_g%];lia
theorem o8(cs:List Char):(tx cs).cps.toList=cs.map jA:=by unfold tx;simp
theorem aap(n:Nat):AllDigits ((dg n).map jA):=fun c m=>by
 k_dat (d,hd,dH.mp,m) "z"
 exact acB hd
theorem aoq(h:(dg n).length<=640):intText? (tx (dg n))=some (n:Int):=by
 rw[intText_digits (by rw[o8];exact aap n) (by rw[o8];simpa using ahU n) (by rw[tO];lia),o8,auZ]
theorem aqE(h:48<=c/\c<=57):afc (aW "0123456789") #[[c].toArray]=true:=by
 have all:∀k,k<10->afc (aW "0123456789") #[[48+k].toArray]=true:=by decide +kernel
 have:=all (c-48) tb_g%
 rwa [show 48+(c-48)=c by lia]at this
theorem aqF(h:0<n):∃c r,(dg n).map jA=c::r/\49<=c:=by
 induction n using Dp with
 |_ n ih =>
  have one:∀m,m<10->0<m->49<=(Dq m).toNat:=by decide
  rcases iy n 10 with l|l
  ·show#[_,[],by rw[Gy l];rfl,one n l h]
  ·obtain⟨c,r,e,hc⟩:=ih (n / 10) tb_g% tb_g%;show#[c,r++(dg (n % 10)).map jA,by rw[WT l,aR,e];rfl,hc]
end Dec
namespace L2
open PySem PySem.Spec PySem.Builtin PySem.Builtin.Str PyProof.Rows
section
variable{X:Cx}
theorem Rp:∀l:List (Str × Tok),Vals ((l.map (·.1)).map V.str) (Yw l)
 |[]=>.nil
 |p::l=>.cons #[p.2,rfl] (Rp l)
theorem Ek{pins:List (Addr × Obj)}{s:Shared}{σ:St}{H:Hp}{Q:VK}{k:Nat}(I:Inv X pins σ H s)(l:List (Str × Tok)){ys:List Str}(e:l.map (·.1)=ys)(hl:ys.length<=sizeLine)
  (q:∀D,H D=none->Q (.ref D) (upd H D (.lst (ys.map V.str)))):EP X pins σ Q (.ref (~~~s)) { s with heap:=s.heap.push { cls:=.type "list",data:=.seq (Yw l).toArray },toks:=k }:=by
 show#[.ref (~~~s),_,I.laid (t':=k) (fun b u h=>cH _ h) (aK _) (show dD X.prog X.w _ _ (~~~s) (.lst (ys.map V.str))from#[by rwa[aD],Yw l,0,by rw[<-e];exact Rp l,Heap.get?_push_at rfl rfl]),rfl,q _ (I.hok.fresh (aK _))]
def au0:V->List V->Hp->VK->Prop:=fun x vs H Q=>∃z y:Str,x=.str z/\vs=[.str y]/\(y.length == 0)=false/\z.length<=1048576/\∀D,H D=none->Q (.ref D) (upd H D (.lst ((vH z y).map V.str)))
theorem acD:MtR X "str.split" au0:=by
 k_dat (vs,us,rv) "i"
 obtain⟨z,y,rfl,rfl,hy,hz,q⟩:=h
 k_dat (t,v,z,rx) "w"
 obtain⟨u,rfl,ru⟩:=vals1 rv
 k_dat (k,ru) "y"
 have big:z.length+2<=sizeLine:=cW (show _<=1048578 by lia) tb_g%;have hn:(partsBetween z (occurrences z y 0 z.length (z.length+1)) y.length).length<=sizeLine:=by
  have:=StrLaws.occ_length_le z y 0 z.length (z.length+1);rw[akG];lia
 unfold vH at q;cases c1:(decide (z.length<y.length) || decide (amj z<amj y))with
 |true =>
  rw[mI c1]at q;refine Dd F.slot_str_split (zf _ _ _) F.entry_str_split (F.args_str_split_2 _ _) (meets_str_split_cannot_occur z y t k c1) ?_;exact Ek I [(z,t)] rfl tb_g% q
 |false =>
  rw[mB (ne_true_of_eq_false c1)]at q;cases c2:(occurrences z y 0 z.length (z.length+1)).isEmpty with
  |true =>
   rw[mI c2]at q;refine Dd F.slot_str_split (zf _ _ _) F.entry_str_split (F.args_str_split_2 _ _) (meets_str_split_not_found z y t k c1 hy c2) ?_;exact Ek I [(z,t)] rfl tb_g% q
  |false =>
   rw[mB (ne_true_of_eq_false c2)]at q;refine Dd F.slot_str_split (zf _ _ _) F.entry_str_split (F.args_str_split_2 _ _) (meets_str_split_sep z y t k c1 hy c2 tb_g% hn) ?_;have e:=Ek (k:=s.toks+(partsBetween z (occurrences z y 0 z.length (z.length+1)) y.length).length) I (numbered s.toks (partsBetween z (occurrences z y 0 z.length (z.length+1)) y.length)) (numbered_texts _ _) hn q;rwa[<-strsFrom_eq]at e
def aqG:V->List V->Hp->VK->Prop:=fun x vs H Q=>∃z y:Str,x=.str z/\vs=[.str y]/\Q (.bl (Zq z y)) H
theorem U0:MtR X "str.startswith" aqG:=by
 k_dat (vs,us,rv) "i"
 obtain⟨z,y,rfl,rfl,q⟩:=h
 k_dat (t,v,z,rx) "w"
 obtain⟨u,rfl,ru⟩:=vals1 rv
 k_dat (k,ru) "y"
 exact atZ #[.bl _,H,I,rfl,q]
theorem aor:OpR X (fB .In) (fun x y H Q=>∃a b:Str,x=.str a/\y=.str b/\Q (.bl (afc b a)) H):=by
 k_dat (y,u,ry) "i"
 obtain⟨a,b,rfl,rfl,q⟩:=h
 k_dat (t,v,a,rx) "w"
 k_dat (k,u,b,ry) "w"
 exact PySem.P.in_str #[.bl _,H,I,rfl,q]
theorem agz:gA X (.type "int") (fun xs H Q=>∃z n,xs=[.str z]/\z.length<=640/\PySem.intText? z=some n/\Q (.int n) H):=by
 walk_at "l"
 obtain⟨z,n,rfl,hz,e,q⟩:=h;obtain⟨u,rfl,t,rfl⟩:=vals1 r;exact atQ e hz #[.int n,H,I.tok _,#[_,rfl],q]
end
def ji(c:Nat):List (List Nat)->List Nat
 |[]=>[]
 |[a]=>a
 |a::b::r=>a++c::ji c (b::r)
theorem aos:∀{a b X Y:List Nat},c∉a->c∉b->a++c::X=b++c::Y->a=b/\X=Y
 |[],[],_,_,_,_,e=>#[rfl,(ZC e).2]
 |[],y::b,_,_,_,h,e=>mM (aP.mpr (.inl (ZC e).1)) h
 |x::a,[],_,_,h,_,e=>mM (aP.mpr (.inl (ZC e).1.symm)) h
 |x::a,y::b,_,_,h,g,e=>by
  obtain⟨e1,e2⟩:=ZC e;obtain⟨e3,e4⟩:=aos (fun m=>h (cF _ m)) (fun m=>g (cF _ m)) e2;show#[by rw[e1,e3],e4]
theorem aot:∀{A B:List (List Nat)},A≠[]->B≠[]->(∀a∈A,c∉a)->(∀b∈B,c∉b)->ji c A=ji c B->A=B
 |[],_,h,_,_,_,_=>mM rfl h
 |_::_,[],_,h,_,_,_=>mM rfl h
 |[a],[b],_,_,_,_,e=>by rw[show a=b from e]
 |[a],b::d::r,_,_,h,_,e=>mM (by rw[show a=b++c::ji c (d::r)from e];exact oG _ bY) (h a bY)
 |a::d::r,[b],_,_,_,h,e=>mM (by rw[<-show a++c::ji c (d::r)=b from e];exact oG _ bY) (h b bY)
 |a::d::r,b::f::s,_,_,h,g,e=>by
  obtain⟨e1,e2⟩:=aos (h a bY) (g b bY) e;rw[e1,aot (kZ _ _) (kZ _ _) (fun x m=>h x (cF _ m)) (fun x m=>g x (cF _ m)) e2]
theorem aaq(c:Nat):∀ts:List Str,(YL #[[c].toArray] ts).cps.toList=ji c (ts.map fun t=>t.cps.toList)
 |[]=>rfl
 |[a]=>rfl
 |a::b::r=>by
  show(a.cps++[c].toArray++(YL #[[c].toArray] (b::r)).cps).toList=_;rw[Jl,Jl,aaq c (b::r),iB];rfl
theorem aou(x y:Str):vH x y≠[]:=by
 unfold vH;split
 ·exact kZ _ _
 ·split
  ·exact kZ _ _
  ·rename_i h;intro e;have:=akG x (occurrences x y 0 x.length (x.length+1)) y.length;rw[e]at this;cases this
theorem Rq(ne:ts≠[])(free:∀t∈ts,c∉t.cps.toList):vH (cZ #[[c].toArray] ts) #[[c].toArray]=ts:=by
 have e:=StrLaws.join_split (cZ #[[c].toArray] ts) #[[c].toArray];have f:=StrLaws.split_free (cZ #[[c].toArray] ts) c;have n:=aou (cZ #[[c].toArray] ts) #[[c].toArray];generalize vH (cZ #[[c].toArray] ts) #[[c].toArray]=us at e f n;have e2:YL #[[c].toArray] us=YL #[[c].toArray] ts:=e.trans (StrLaws.glued_eq_join _ _);have e3:=mN (fun z:Str=>z.cps.toList) e2;rw[aaq,aaq]at e3;have inj:∀{us ts:List Str},us.map (fun t=>t.cps.toList)=ts.map (fun t=>t.cps.toList)->us=ts:=fun {us ts} h=>by
  have:∀us:List Str,(us.map fun t=>t.cps.toList).map (fun l=>(#[l.toArray]:Str))=us:=fun us=>by
   rw[dB];exact(xU fun t _=>by cases t;simp).trans (akz us)
  rw[<-this us,h,this]
 refine inj (aot (fun z=>n (XH.mp z)) (fun z=>ne (XH.mp z)) (fun a m=>?_) (fun a m=>?_) e3)
 ·obtain⟨t,mt,rfl⟩:=dH.mp m;exact f t mt
 ·obtain⟨t,mt,rfl⟩:=dH.mp m;exact free t mt
end L2
namespace L2
open PySem PySem.Spec PyProof.Rows
def Itc(z:Str):It:=#[fun i _=>i<z.cps.size,fun i H x H'=>H'=H/\∃c,z.cps[i]? = some c/\x=.str #[[c].toArray],fun i _=>i=z.cps.size]
theorem acE{P:aN}{w:World}{K:aH}{tg:Expr}(it:Addr)(z:Str)(t:Tok){ty:String}(hty:["enumerate","zip","dict_itemiterator","dict_reverseitemiterator","odict_iterator","itertools.zip_longest","itertools.pairwise"].contains ty=false)
  (W:∀A:aU,A.handled=none->Walks P w A it [it] [it] z.cps.size (SignAt z) fun i h=>h.IsStrIter it ty z t i)
  (S:∀(A:aU)(i:Nat)(s:Shared)(Q:Value->Shared->Prop)(E:Value->Shared->Prop),s.heap.IsStrIter it ty z t i->Q (.ref it) s->wpAny (model P w) A (vB (.ref it)) Q E s):Turn P w K tg (Itc z) [it] it (fun i h=>h.IsStrIter it ty z t i) where
 mem:=by simp
 obj:=fun i h st b hb=>by
  have e:b=it:=by simpa using hb
  subst e;obtain⟨o,e,c,d⟩:=st;show#[o,e,fun v y=>by rw[d]at y;cases y]
 keep:=fun i h h' st k=>(W { } rfl).frame i h h' st k
 item:=by
  walk_at "b"
  subst hP hw hK
  k_dat it "d"
  refine(W X.A (I.ok.hd hc)).item i s _ _ hg st fun v h' tk hv st' kk=>?_;obtain⟨c,u,hx,rfl⟩:=hv;have I1:Inv X pins σ H { s with heap:=h',toks:=tk }:=I.turned (fun b o hb e=>kk b o (by simpa using hb) e) f0 f1 f3 f4 f5;have st2:=st';obtain⟨o,ho,hcl,hd⟩:=st2;show#[_,rfl,abN (s:={ s with heap:=h',toks:=tk }) ho hcl hd hty #[.str #[[c].toArray],H,I1,#[u,rfl],#[rfl,c,hx,rfl],st',fun b hb=>(hf b hb).1]]
 done:=by
  walk_at "b"
  subst hP hw hK
  k_dat it "d"
  obtain rfl:i=z.cps.size:=hg;exact(W X.A (I.ok.hd hc)).done s _ _ st fun h' tk kk=>#[rfl,I.turned (t':=tk) (fun b o hb e=>kk b o (by simpa using hb) e) f0 f1 f3 f4 f5]
 self:=S
section
variable{X:Cx}{tg:Expr}
def iStr(tl:TE):TI:=fun σ H R=>tl σ H fun x H1=>∃z,x=.str z/\R (Itc z) H1
theorem au1(hl:PE X l tl):PI X tg l (iStr tl):=by
 k_dat (R,h) "g"
 refine thn (hl pins s σ H _ I h) fun v s1 zq=>?_
 walk_at "s"
 obtain⟨z,rfl,q⟩:=q1
 k_dat (t,v,z,r1) "w"
 have fp:∀b∈[~~~s1],FZ X pins H1 b:=fun b hb=>by
  have e:b= ~~~s1:=by simpa using hb
  subst e;exact I1.afH (aK _) (I1.hok.fresh (aK _))
 cases ha:z.cps.all (· < 128)with
 |true=>exact wpAny_pyIter_ascii ha #[_,_,_,_,H1,rfl,I1.kept (t':=s1.toks) fun b o e=>cH _ e,acE _ z t tb_g% (fun A hA=>Walks.strAscii hA _ z t) (fun _ _ _ _ _ st hQ=>wpAny_pyIter_striter_ascii st hQ),#[_,cJ _ rfl,rfl,rfl],fp,q]
 |false=>exact wpAny_pyIter_wide ha #[_,_,_,_,H1,rfl,I1.kept (t':=s1.toks) fun b o e=>cH _ e,acE _ z t tb_g% (fun A hA=>Walks.strWide hA _ z t) (fun _ _ _ _ _ st hQ=>wpAny_pyIter_striter_wide st hQ),#[_,cJ _ rfl,rfl,rfl],fp,q]
end
theorem aov{z:Str}(Pv:Nat->List V->Hp->Prop)(h0:Pv 0 [] (upd H D (.lst [])))
  (hl:∀i ys H,i<=z.cps.size->Pv i ys H->H D=some (.lst ys)/\ys.length<sizeLine)
  (hs:∀i ys H c,z.cps[i]? = some c->Pv i ys H->te (z8 σ (some (.str #[[c].toArray])) caps) H fun y H3=>H3 D=some (.lst ys)/\Pv (i+1) (ys++[y]) (upd H3 D (.lst (ys++[y]))))
  (hd:∀ys H,Pv z.cps.size ys H->Q (.ref D) H) (mE:∀σ H (Q Q':VK),(∀y H,Q y H->Q' y H)->te σ H Q->te σ H Q'):oY (Itc z) caps wC te σ D Q H:=by
 show#[fun i m ys H=>m=z.cps.size-i/\i<=z.cps.size/\Pv i ys H,#[_,rfl,cg _,h0],?_];rintro i m ys H ⟨rfl,hi,p⟩;obtain⟨q,l⟩:=hl i ys H hi p;show#[q,?_];rcases iy i z.cps.size with lt|ge
 ·refine .inr #[lt,l,fun x H' y=>?_];obtain⟨rfl,c,hc,rfl⟩:=y;unfold wC;dsimp only;rw[mI rfl];exact mE _ _ _ _ (fun y H3 ⟨a,b⟩=>#[a,z.cps.size-(i+1),by lia,rfl,lt,b]) (hs i ys _ c hc p)
 ·obtain rfl:i=z.cps.size:=by lia
  exact .inl #[rfl,hd ys H p]
section
variable{X:Cx}
def rAllL(K:aH):List V->Hp->VK->Prop:=fun xs H Q=>∃(a:Addr)(bs:List Bool),xs=[V.ref a]/\SqL K H a (bs.map V.bl)/\Q (.bl (bs.all id)) H
theorem acF:∀{bs:List Bool}{its:List Value},Vals (bs.map V.bl) its->∀(i:Nat)(v:Value),its.toArray[i]? = some v->∃b,bs[i]? = some b/\v=Value.bool b
 |[],_,h,i,v,e=>by cases h;simp at e
 |b::bs,_,h,i,v,e=>by
  cases h with
  |cons r1 r2 =>
   cases i with
   |zero=>obtain rfl:=(show _=Value.bool b from r1);show#[b,rfl,by simpa using e.symm]
   |succ i=>exact acF r2 i v (by simpa using e)
theorem range_all{bs:List Bool}:(gY bs.length).all (fun i=>bs.getD i true)=bs.all id:=by
 rw[Qf,X4,X4];constructor
 ·intro h b m;obtain⟨i,hi⟩:=XF m;have:=h i (CN.mpr (dI.mp hi).1);rwa[ug,hi]at this
 ·intro h i m;have li:=CN.mp m;rw[ug,eE li];exact h _ (yS li)
theorem Br(hc:X.calm=true):gA X (.builtin "all") (rAllL X.K):=by
 walk_at "l"
 obtain⟨a,bs,rfl,ha,q⟩:=h
 walk_at "x"
 cases ru;obtain⟨its,rv,p,hz⟩:=I.list ha;have hl:its.length=bs.length:=by rw[<-rv.length,aD]
 have ne:a≠ ~~~s:=bJ (aV (p.isList.choose_spec.1));refine call_all_walk (Io p.isList #[~~~s,_,_,_,_,_,fun i=>bs.getD i true,rfl,ZD (A:=X.A.in1) (I.ok.hd hc) _ a ne its.toArray,#[#[_,cJ _ rfl,rfl,rfl],?_],?_,fun h' tk hk=>?_])
 ·exact p.isList.push _
 ·intro i v s' Q' E' hv hq;obtain⟨b,hb,rfl⟩:=acF rv i v hv;dsimp only at hq;rw[ug,hb]at hq;exact CT hq
 ·show#[.bl (bs.all id),H,I.kept (t':=tk) fun b o e=>hk b o (fun m=>?_) (cH _ e),?_,q]
  ·have l1:=aV e;rw[bO.mp m]at l1;exact oN _ l1
  ·rw[bG,hl,range_all];rfl
end
end L2
namespace L2
open PySem PySem.Spec PySem.Builtin PySem.Builtin.Str PyProof.Rows
section
variable{X:Cx}
def rSlS:V->Option Int->Option Int->Hp->VK->Prop:=fun x lo hi H Q=>∃z:Str,x=.str z/\z.length<=1048576/\Q (.str (Zu z lo hi)) H
theorem au2:SlR X rSlS:=by
 intro pins s σ H x v vl vu lo hi sl Q I rx hs pl pu h;obtain⟨z,rfl,hz,q⟩:=h
 k_dat (t,v,z,rx) "w"
 have big:z.length<=sizeLine:=cW hz tb_g%;have fin:∀t' k,EP X pins σ Q (.str (Zu z lo hi) t') { s with toks:=k }:=fun t' k=>#[.str _,H,I.tok _,#[t',rfl],q];show#["str",_,F.slot_str_getitem.lookup,zf _ _ _,?_];cases pl <;> cases pu
 ·exact Yc (l:=none) (u:=none) (st:=none) hs rfl (Yj #[cW (Zr z _ _) big,fin])
 ·exact Yc (l:=none) (u:=some (_,_)) (st:=none) hs rfl (Yj #[cW (Zr z _ _) big,fin])
 ·exact Yc (l:=some (_,_)) (u:=none) (st:=none) hs rfl (Yj #[cW (Zr z _ _) big,fin])
 ·exact Yc (l:=some (_,_)) (u:=some (_,_)) (st:=none) hs rfl (Yj #[cW (Zr z _ _) big,fin])
end
end L2
namespace PySem
open Sem (wp)
abbrev jB(h:Heap)(z TI TO:Addr)(f0:Value)(b:Bool):Prop:=
 h.get? z=some { cls:=.type "zip",dict:=none,data:=.fields [f0,.bool b,.bool false,.ref TI,.ref TO].toArray,slots:=#[] }
abbrev Tp(h:Heap)(T:Addr)(vs:List Value):Prop:=h.get? T=some { cls:=.type "tuple",data:=.seq vs.toArray }
def its(b:Nat):Nat->Nat->List Value
 |0,_=>[]
 |n+1,j=>.ref (b+j)::its b n (j+1)
abbrev Ls:=List (Addr × Array Value)
structure ZN(b:Nat)(ls:Ls)(i j:Nat)(h:Heap):Prop where
 it:∀(k:Nat)(l:Addr)(xs:Array Value),ls[k]? = some (l,xs)->h.IsListIter (b+k) l (if k<j then i+1 else i)/\h.IsList l xs/\l<b
 ti:Tp h (b+ls.length) (its b ls.length 0)
theorem JV(b p q:Nat)(e:p≠q):b+p≠b+q:=by lia
theorem zo1{b c j n:Nat}(h:c<b\/b+n<=c)(l:j<n):c≠b+j:=by lia
theorem zo2(h:c<b\/b+n+2<c)(k:Nat)(l:k<=n+2):c≠b+k:=by lia
theorem zo3(h:l<b):l<=b+n+2:=by lia
theorem ZN.but(K:ZN b ls i j h)(s:alf c h h')(hc:b+ls.length<c):ZN b ls i j h':=by
 have n:∀a:Nat,a<=b+ls.length->a≠c:=fun a l=>bJ (oM l hc);show#[fun k l xs e=>?_,s _ _ (n _ (aK _)) K.ti];obtain⟨a,m,lt⟩:=K.it k l xs e;have lk:=(dI.mp e).1;show#[a.extBut s (n _ (aeD (gK lk) b)),m.extBut s (n _ (cW (gK lt) (mJ _ _))),lt]
section
variable{A:aU}{s:Shared}{b:Nat}{ls:Ls}{i j:Nat}
theorem GF(h:Q (s⁻¹ a) s):wpAny (model prog w) A (loadIfAlive a) Q E s:=fun _ _ _=>h
theorem ZN.next(K:ZN b ls i j s.heap)(hl:ls[j]? = some (l,xs))(hx:xs[i]? = some x)(q:∀h',ZN b ls i (j+1) h'->lF (b+j) s.heap h'->Q x { s with heap:=h' }):
  wpAny (model prog w) A (Qo (.ref (b+j))) Q E s:=by
 obtain⟨a,m,lt⟩:=K.it j l xs hl;rw[mB (oN j)]at a;refine wpAny_nextOf_list_item a m hx fun h' a' sb=>q h' #[fun k l' xs' e=>?_,sb.extBut _ _ (JV b _ _ (jM (dI.mp hl).1)) K.ti] sb;obtain⟨a2,m2,lt2⟩:=K.it k l' xs' e;show#[?_,m2.extBut sb.extBut (bJ (eZ lt2 (mJ _ _))),lt2];by_cases z:k=j
 ·subst z;rw[hl]at e;cases e;rwa[mI (sH _)]
 ·have:(if k<j+1 then i+1 else i)=if k<j then i+1 else i:=by
   by_cases y:k<j
   ·rw[mI y,mI (zx y)]
   ·rw[mB y,mB tb_g%]
  rw[this];exact a2.extBut sb.extBut (JV b _ _ z)
def Row(ls:Ls)(i:Nat)(vs:List Value):Prop:=vs.length=ls.length/\∀(k:Nat)(l:Addr)(xs:Array Value),ls[k]? = some (l,xs)->xs[i]? = vs[k]?
theorem Row.at(r:Row ls i vs)(e:j+(m+1)=ls.length):∃l xs x,ls[j]? = some (l,xs)/\xs[i]? = some x/\vs[j]? = some x:=by
 have l1:j<ls.length:=by lia
 have l2:j<vs.length:=by rw[r.1];lia
 show#[ls[j].1,ls[j].2,vs[j],eE l1,(r.2 j _ _ (eE l1)).trans (eE l2),eE l2]
def ZKp(b n:Nat)(h h':Heap):Prop:=h'.objs.size=h.objs.size/\∀c o,c<b\/b+n<=c->h.get? c=some o->h'.get? c=some o
theorem aqH(l:j<n)(s:lF (b+j) h h')(k:ZKp b n h' h2):ZKp b n h h2:=#[k.1.trans s.1,fun c o e g=>k.2 c o e (s.extBut _ _ (zo1 e l) g)]
theorem WX(r:Row ls i vs)
  (hf:∀(it:Value)(items:Array Value)(s:Shared) (Q:ForInStep (Option Fin × Array Value)->Shared->Prop),wpAny (model prog w) A (Qo it) (fun x s'=>Q (.yield (none,items.push x)) s') E s->wpAny (model prog w) A (f it (none,items)) Q E s):
  ∀(m j:Nat)(items:Array Value)(s:Shared)(Q:Option Fin × Array Value->Shared->Prop),j+m=ls.length->ZN b ls i j s.heap->(∀h',ZN b ls i ls.length h'->ZKp b ls.length s.heap h'->Q (none,(items.toList++vs.drop j).toArray) { s with heap:=h' }) ->
   wpAny (model prog w) A (forIn (its b m j) (none,items) f) Q E s
 |0,j,items,s,Q,e,K,q=>by
  have q:=q s.heap (by rw[<-e];exact K) #[rfl,fun _ _ _ g=>g];rw[List.drop_eq_nil_of_le (by rw[r.1];lia),yU,Y7]at q;exact aF q
 |m+1,j,items,s,Q,e,K,q=>by
  obtain ⟨l,xs,x,hl,hx,hv⟩:=r.at e;show wpAny _ _ (forIn (.ref (b+j)::its b m (j+1)) (none,items) f) Q E s;rw [X8];refine aA (hf _ _ _ _ (K.next hl hx fun h' K' sb=>?_));refine WX r hf m (j+1) _ _ _ tb_g% K' fun h2 K2 k2=>?_;have:=q h2 K2 (aqH tb_g% sb k2);rw [show vs.drop j=x::vs.drop (j+1) from by
   obtain ⟨l2,e2⟩:=dI.mp hv;rw [K8 l2,e2]] at this
  rwa[Y8,iB]
theorem WY(r:Row ls i vs)
  (hf:∀(it:Value)(k:Nat)(s:Shared) (Q:ForInStep (Option Fin × Unit)->Shared->Prop),(∀E',wpAny (model prog w) A (Qo it) (fun x s'=>∃us,Tp s'.heap (b+ls.length+1) us/\us.length=ls.length/\∀h',Tp h' (b+ls.length+1) (us.set k x)->lF (b+ls.length+1) s'.heap h'->Q (.yield (none,())) { s' with heap:=h' }) E' s)->wpAny (model prog w) A (f (it,k) (none,())) Q E s):
  ∀(m j:Nat)(us:List Value)(s:Shared)(Q:Option Fin × Unit->Shared->Prop),j+m=ls.length->ZN b ls i j s.heap->Tp s.heap (b+ls.length+1) (vs.take j++us)->us.length=m->(∀h',ZN b ls i ls.length h'->Tp h' (b+ls.length+1) vs->h'.objs.size=(~~~s)->(∀c o,c<b\/b+ls.length<=c->c≠b+ls.length+1->s⁻¹ c=some o->h'.get? c=some o)->Q (none,()) { s with heap:=h' }) ->
   wpAny (model prog w) A (forIn ((its b m j).zipIdx j) (none,()) f) Q E s
 |0,j,us,s,Q,e,K,t,lu,q=>by
  obtain rfl:=BX.mp lu;rw[yU,uh (by rw[r.1];lia)]at t;exact aF (q s.heap (by rw[<-e];exact K) t rfl fun _ _ _ _ g=>g)
 |m+1,j,us,s,Q,e,K,t,lu,q=>by
  k_dat (u,us,List.exists_cons_of_length_eq_add_one,lu) "z"
  obtain⟨l,xs,x,hl,hx,hv⟩:=r.at e;have lv:(vs.take j).length=j:=by rw[eX,r.1];lia
  show wpAny _ _ (forIn ((.ref (b+j),j)::(its b m (j+1)).zipIdx (j+1)) (none,()) f) Q E s;rw[X8];refine aA (hf _ _ _ _ fun E'=>K.next hl hx fun h' K' sb=>#[_,sb.extBut _ _ (JV b (ls.length+1) j tb_g%) t,by rwa[cu,lv,lu],fun h2 t2 sb2=>?_]);rw[akf _ _ (Qa lv),lv,Jh,List.set_cons_zero]at t2;refine WY r hf m (j+1) us _ _ tb_g% (K'.but sb2.extBut (sH _)) (by rwa[jg,hv,iB]) (by simpa using lu) fun h3 K3 t3 z3 k3=>?_;exact q h3 K3 t3 (z3.trans (sb2.1.trans sb.1)) fun c o h1 h2 g=>k3 c o h1 h2 (sb2.extBut _ _ h2 (sb.extBut _ _ (zo1 h1 tb_g%) g))
structure ZS(b:Nat)(ls:Ls)(i:Nat)(h:Heap):Prop extends ZN b ls i 0 h where
 z:jB h (b+ls.length+2) (b+ls.length) (b+ls.length+1) .none false\/∃(T:Addr)(o:Obj)(f:Bool),b+ls.length+2<T/\jB h (b+ls.length+2) (b+ls.length) (b+ls.length+1) (iC T) f/\h.get? T=some o
 to:∃us,Tp h (b+ls.length+1) us/\us.length=ls.length
theorem ZN.over  (K:ZN b ls i ls.length h):ZN b ls (i+1) 0 h:=#[fun k l xs e=>by
 have:=K.it k l xs e;rw [mI (dI.mp e).1] at this;exact this,K.ti]
theorem ZS.keep{h h':Heap}(k:ZS b ls i h)(nd:∀T o,b+ls.length+2<T->h.get? T=some o->∃o,h'.get? T=some o)(q:∀c o,c<=b+ls.length+2->h.get? c=some o->h'.get? c=some o):ZS b ls i h':=by
 show#[#[fun n l xs e=>?_,q _ _ tb_g% k.ti],?_,?_]
 ·obtain⟨a,m,lt⟩:=k.it n l xs e;have lk:=(dI.mp e).1;show#[a.at fun o g=>q _ o (aeD (gK (eZ lk (mJ _ 2))) b) g,m.at fun o g=>q _ o (zo3 lt) g,lt]
 ·rcases k.z with z|⟨T,o,f,l,z,t⟩
  ·exact .inl (q _ _ (aK _) z)
  ·obtain⟨o',t'⟩:=nd T o l t;exact .inr #[T,o',f,l,q _ _ (aK _) z,t']
 ·obtain⟨us,t,l⟩:=k.to;show#[us,q _ _ tb_g% t,l]
theorem acG{z TI TO T:Addr}{b:Bool}(hz:jB s.heap z TI TO (iC T) b)(hT:s⁻¹ T=some o)
  (hQ:∀h',jB h' z TI TO (iC T) true->lF z s.heap h'->Q false { s with heap:=h' }):
  wpAny (model prog w) A (Zv (.ref z)) Q E s:=by
 unfold Zv;refine aA (jL hz rfl (x:=iC T) rfl ?_);show wpAny _ _ (loadIfAlive T >>= _) _ _ _;refine aA (GF ?_);rw[hT];show wpAny _ _ (field (.ref z) 1 >>= _) _ _ _;refine aA (jL hz rfl (x:=.bool b) rfl ?_);cases b with
 |true => 
  refine aA (aF (aF ?_));exact hQ s.heap hz (.refl _ _)
 |false => 
  refine aA (xV hz (by simp) fun h₁ hz₁ hs₁=>aF ?_);exact hQ h₁ hz₁ hs₁
theorem zipN{z TI TO:Addr}{b:Bool}(hz:jB s.heap z TI TO f0 b)
  (h:∀ E',(∀ e h',(∃ o,h'.get? e=some o/\o.cls = .type "StopIteration")->Q none { s with heap:=h' }->E' (.ref e) { s with heap:=h' }) ->
   wpAny (model prog w) A.in1 (cO.«zip.__next__» #[[.ref z],[]]) (fun fin s'=>∃ v,fin = .done (.ret v)/\Q (some v) s') E' s):wpAny (model prog w) A (fM (.ref z)) Q E s:=by
 have hT:s.TypeIs (.ref z) "zip" := #[_,hz,rfl];unfold fM;refine aA (Iz (Pa (name:=aW "__next__") hT F.slot_zip_next (xW F.slot_zip_next hT F.entry_zip_next (iw (h _ ?_) (fun fin s' q=>?_) fun _ _ q=>q) (F.args_zip_next_1 _))))
 ·intro e h' he q;obtain⟨o,ho,hc⟩:=he;exact aA (Ph (T := "StopIteration") (b:=true) #[o,ho,hc] aee (aF q))
 ·obtain⟨v,rfl,q⟩:=q;show#[v,rfl,aF q]
theorem aar(h:0<n):((its b n 0).toArray.isEmpty=true)=False:=by
 cases n with
 |zero=>exact mM h (oN 0)
 |succ n=>simp[its]
theorem updTp(hT:Tp s.heap T us)(l:us.length<=sizeLine)(h:∀h',Tp h' T (us.set k x)->lF T s.heap h'->Q () { s with heap:=h' }):wpAny (model prog w) A (zm T (·.setIfInBounds k x)) Q E s:=by
 refine pJ (hz:=by simpa using l) (_hz':=by simp;lia) hT rfl (h _ ?_ (afm ..));show Heap.get? _ _=_;rw[uq _ hT rfl];simp[eO]
theorem ahV(k:ZS b ls i s.heap)(r:Row ls i vs)(n0:0<ls.length)(hsz:vs.length<=sizeLine)
  (hQ:∀h',ZS b ls (i+1) h'->Tp h' (~~~s) vs->h'.objs.size= ~~~s+1->(∀c o,c<b\/b+ls.length+2<c->s⁻¹ c=some o->h'.get? c=some o)->Q (some (.ref (~~~s))) { s with heap:=h' }):
  wpAny (model prog w) A (fM (.ref (b+ls.length+2))) Q E s:=by
 obtain⟨us,t,lu⟩:=k.to;rcases k.z with z|⟨T,o,f,lT,z,kT⟩
 ·refine zipN z fun E' _=>?_
  k_dat 2 "u"
  refine aA (jL z rfl (x:=.bool false) rfl ?_)
  k_dat 3 "u"
  refine aA (jL z rfl (x:=.ref _) rfl (aA (oK k.ti rfl ?_)));dsimp only;rw[mB (by rw[aar n0];exact id)];refine aA ?_;unfold Zv;refine aA (jL z rfl (x:=.none) rfl (aF ?_));simp only[if_true];refine aA (pK (aA (jL z rfl (x:=.ref _) rfl ?_)));dsimp only;refine aA (xV z (by simp) fun h₁ z₁ s₁=>?_);replace z₁:jB h₁ (b+ls.length+2) (b+ls.length) (b+ls.length+1) .ellipsis false:=z₁;have ne:b+ls.length+1≠b+ls.length+2:=JV _ 1 2 tb_g%;refine aA (WY r (fun it k s Q h=>?_) ls.length 0 us _ _ (lG _) (k.toZN.but s₁.extBut (aeC tb_g%)) (s₁.extBut _ _ ne t) lu fun h₂ K₂ t₂ e₂ k₂=>?_)
  ·refine aA (ak0 ?_);show wpAny _ _ (Qo it >>= _) _ _ _;refine aA (iw (h _) (fun x s' hq=>aF ?_) fun _ _ e=>e);obtain⟨us,t,l,q⟩:=hq;refine aA (oK t rfl ?_);exact aA (updTp t (by rwa[l,<-r.1]) fun h' t' sb=>aA (Dc (aF (q h' t' sb))))
  ·refine aA (oK t₂ rfl (aA (Yl (hsz:=hsz) ?_)));have hs:h₂.objs.size= ~~~s:=e₂.trans s₁.1;have z₂:jB h₂ (b+ls.length+2) (b+ls.length) (b+ls.length+1) .ellipsis false:=k₂ _ _ (.inr (mJ _ 2)) (aL ne) z₁;have big:b+ls.length+2<h₂.objs.size:=aV z₂;show wpAny _ _ (ama (.ref (b+ls.length+2)) (.ref h₂.objs.size) >>= _) _ _ _;unfold ama;have z₃:jB (h₂.push { cls:=.type "tuple",data:=.seq vs.toArray }) (b+ls.length+2) (b+ls.length) (b+ls.length+1) .ellipsis false:=cH _ z₂;refine aA (aA (xV z₃ (by simp) fun h₄ z₄ s₄=>?_));replace z₄:jB h₄ (b+ls.length+2) (b+ls.length) (b+ls.length+1) (iC h₂.objs.size) false:=z₄;refine xV z₄ (by simp) fun h' z' s'=>?_;replace z':jB h' (b+ls.length+2) (b+ls.length) (b+ls.length+1) (iC h₂.objs.size) false:=z';have up:∀c o,c≠b+ls.length+2->h₂.get? c=some o->h'.get? c=some o:=fun c o c1 e=>s'.extBut _ _ c1 (s₄.extBut _ _ c1 (cH _ e));have tri:Tp h' h₂.objs.size vs:=s'.extBut _ _ (jM big) (s₄.extBut _ _ (jM big) (cJ _ rfl));have sz':h'.objs.size=h₂.objs.size+1:=by rw[s'.1,s₄.1,pQ]
   rw[hs]at z' tri sz' big;refine aF #[_,rfl,?_];show Q (some (.ref h₂.objs.size)) _;rw[hs];refine hQ h' #[K₂.over.but up (aeC tb_g%),.inr #[_,_,false,big,z',tri],_,up _ _ ne t₂,r.1] tri sz' fun c o e g=>up _ _ (zo2 e _ (aK _)) (k₂ c o (e.imp id fun e=>gK (oM (mJ _ 2) e)) (zo2 e (ls.length+1) (jN _)) (s₁.extBut _ _ (zo2 e _ (aK _)) g))
 ·refine zipN z fun E' _=>?_
  k_dat 2 "u"
  refine aA (jL z rfl (x:=.bool false) rfl ?_)
  k_dat 3 "u"
  refine aA (jL z rfl (x:=.ref _) rfl (aA (oK k.ti rfl ?_)));dsimp only;rw[mB (by rw[aar n0];exact id)];refine aA (acG z kT fun h₁ z₁ s₁=>?_);simp only[Dv,if_false,akn];refine aA (WX r (fun it items s Q h=>?_) ls.length 0 #[] _ _ (lG _) (k.toZN.but s₁.extBut (aeC tb_g%)) fun h₂ K₂ k₂=>?_)
  ·refine aA (jD ?_);show wpAny _ _ (Qo it >>= _) _ _ _;exact aA (iw h (fun x s' q=>aF (aF q)) fun _ _ e=>e)
  ·refine aA (Yl (hsz:=by simpa using hsz) (aF #[_,rfl,?_]));have hs:h₂.objs.size= ~~~s:=k₂.1.trans s₁.1;have up:alf (b+ls.length+1) h₂ (h₂.push { cls:=.type "tuple",data:=.seq vs.toArray }):=fun c o _ e=>cH _ e;have up':∀c o,b+ls.length<=c->h₁.get? c=some o->(h₂.push { cls:=.type "tuple",data:=.seq vs.toArray }).get? c=some o:=fun c o l e=>cH _ (k₂.2 c o (.inr l) e);have t2:Tp (h₂.push { cls:=.type "tuple",data:=.seq vs.toArray }) h₂.objs.size vs:=cJ _ rfl;show Q (some (.ref h₂.objs.size)) { s with heap:=h₂.push { cls:=.type "tuple",data:=.seq vs.toArray } };rw[hs]at t2 ⊢;exact hQ _ #[K₂.over.but up (sH _),.inr #[T,o,true,lT,up' _ _ (mJ _ 2) z₁,up' _ _ (cW (mJ _ 2) (gK lT)) (s₁.extBut _ _ (jM lT) kT)],us,up' _ _ (jN _) (s₁.extBut _ _ (JV _ 1 2 tb_g%) t),lu] t2 (by rw[pQ,hs])
    fun c o e g=>cH _ (k₂.2 c o (e.imp id fun e=>gK (oM (mJ _ 2) e)) (s₁.extBut _ _ (zo2 e _ (aK _)) g))
theorem aow(hh:A.handled=none)(k:ZS b ls i s.heap)(e0:ls[0]? = some (l,xs))(hx:xs[i]? = none)
  (hQ:∀h',(∀c o,c<b\/b+ls.length+2<c->s⁻¹ c=some o->h'.get? c=some o)->Q none { s with heap:=h' }):wpAny (model prog w) A (fM (.ref (b+ls.length+2))) Q E s:=by
 obtain⟨a,m,lt⟩:=k.it 0 l xs e0;have n0:=(dI.mp e0).1;obtain⟨n,en⟩:∃n,ls.length=n+1:=#[ls.length-1,by lia];have ei:its b ls.length 0=.ref (b+0)::its b n 1:=by rw[en];rfl
 have lz:b+0≠b+ls.length+2:=JV b 0 (ls.length+2) tb_g%;have lz2:l≠b+ls.length+2:=bJ (eZ lt (cW (mJ _ _) (mJ _ _)));rcases k.z with z|⟨T,o,f,lT,z,kT⟩
 ·refine zipN z fun E' he=>?_
  k_dat 2 "u"
  refine aA (jL z rfl (x:=.bool false) rfl ?_)
  k_dat 3 "u"
  refine aA (jL z rfl (x:=.ref _) rfl (aA (oK k.ti rfl ?_)));dsimp only;rw[mB (by rw[aar n0];exact id)];refine aA ?_;unfold Zv;refine aA (jL z rfl (x:=.none) rfl (aF ?_));simp only[if_true];refine aA (pK (aA (jL z rfl (x:=.ref _) rfl ?_)));dsimp only;refine aA (xV z (by simp) fun h₁ z₁ s₁=>aA ?_);replace z₁:jB h₁ (b+ls.length+2) (b+ls.length) (b+ls.length+1) .ellipsis false:=z₁;rw[ei,List.zipIdx_cons,X8];refine aA (aA (ak0 ?_));show wpAny _ _ (Qo (.ref (b+0)) >>= _) _ _ _;refine aA (akD (show A.in1.handled=none from hh) (a.extBut s₁.extBut lz) (m.extBut s₁.extBut lz2) hx fun h₂ e s₂ ee=>?_);obtain⟨oe,hoe,hce⟩:=ee;have z₂:jB h₂ (b+ls.length+2) (b+ls.length) (b+ls.length+1) .ellipsis false:=s₂ _ _ (aL lz) z₁;have hez:e≠b+ls.length+2:=fun x=>by subst x;rw[z₂]at hoe;cases hoe;simp at hce
  exact xV z₂ (by simp) fun h₃ _ s₃=>he e h₃ #[oe,s₃.extBut _ _ hez hoe,hce] (hQ h₃ fun c o d g=>s₃.extBut _ _ (zo2 d _ (aK _)) (s₂ _ _ (zo2 d 0 (cg _)) (s₁.extBut _ _ (zo2 d _ (aK _)) g)))
 ·refine zipN z fun E' he=>?_
  k_dat 2 "u"
  refine aA (jL z rfl (x:=.bool false) rfl ?_)
  k_dat 3 "u"
  refine aA (jL z rfl (x:=.ref _) rfl (aA (oK k.ti rfl ?_)));dsimp only;rw[mB (by rw[aar n0];exact id)];refine aA (acG z kT fun h₁ z₁ s₁=>?_);simp only[Dv,if_false,akn];rw[ei,X8];refine aA (aA (aA (jD ?_)));show wpAny _ _ (Qo (.ref (b+0)) >>= _) _ _ _;refine aA (akD (show A.in1.handled=none from hh) (a.extBut s₁.extBut lz) (m.extBut s₁.extBut lz2) hx fun h₂ e s₂ ee=>?_);exact he e h₂ ee (hQ h₂ fun c o d g=>s₂ _ _ (zo2 d 0 (cg _)) (s₁.extBut _ _ (zo2 d _ (aK _)) g))
end
end PySem
namespace PySem
open Sem (wp)
open L2 (bU)
namespace F
theorem acH:zc (.type "zip") "keys" = pure none:=akO tb_g%
theorem Rr:zc (.type "zip") "__getattr__" = pure none:=akO tb_g%
theorem uM:vq table "zip.__getattribute__" = some cO.«object.__getattribute__» :=
 Yk (id' := "object.__getattribute__") (by kernel_rfl) tb_g% tb_g% (by kernel_rfl)
theorem eN:YC "dict.update.loop" = true:=by decide +kernel
theorem j4:vq table "dict.update.loop" = some cO.«dict.update.loop» := akM (by kernel_rfl)
end F
theorem Rt(a:Addr)(fs:Array Value)(u:Tok):
  Meets (cO.«object.__getattribute__» #[[.ref a,.str "keys" u],[]]) (fun A R s=>s⁻¹ a=some { cls:=.type "zip",dict:=none,data:=.fields fs,slots:=#[] }/\raisesAttr (.ref a) "keys" A R s):=
 Meets.of_wp fun prog w A R s hs=>by
  obtain⟨hp,g,d,tk,os⟩:=s;obtain⟨hx,hs⟩:=hs;have hT:(#[hp,g,d,tk,os]:Shared).TypeIs (.ref a) "zip" := #[_,hx,rfl];have hmiss:=F.acH;have hname:(["__module__","__name__","__qualname__","__doc__","__annotations__"]:List Str).contains "keys" = false:=by decide +kernel
  unfold cO.«object.__getattribute__»
  repeat (any_goals (first|assumption|wp_step))
  exact wpAny_raiseAttrError hs.1 hs.2 tb_g%
theorem aox{A:aU}{s:Shared}(hx:s⁻¹ a=some { cls:=.type "zip",dict:=none,data:=.fields fs,slots:=#[] })(hA:A.handled=none)
  (h:∀h' tk,(∀b o,s⁻¹ b=some o->h'.get? b=some o)->Q none { s with heap:=h',toks:=tk }):wpAny (model prog w) A (getAttr? (.ref a) "keys") Q E s:=by
 obtain⟨hp,g,d,tk,os⟩:=s;have hT:∀tk',(#[hp,g,d,tk',os]:Shared).TypeIs (.ref a) "zip" := fun _=>#[_,hx,rfl];have f1:=sub_AttributeError;have f3:=F.slot_zip_getattribute.lookup;have f4:=F.slot_zip_getattribute.bind (.ref a);have f5:=F.Rr;unfold getAttr? getAttrBy? getAttrBy
 repeat (any_goals (first|assumption|exact hT _|((with_reducible show wpAny _ _ (call (Value.builtin "zip.__getattribute__") _ _) _ _ _);refine Dd F.slot_zip_getattribute (hT _) F.uM (F.args_zip_getattribute_2 _ _) (Rt a fs _) #[hx,hA,fun h' tk' e hx'=>?_])|wp_step))
 obtain⟨t',u',he⟩:=hx'.there;show wpAny _ _ (akH _ _ _ _ _ _ _) _ _ _;unfold akH
 repeat (any_goals (first|assumption|wp_step))
 exact h _ _ hx'.keeps
section
variable{prog:aN}{w:World}{A:aU}
def Ae(ps:List (L2.Key × Value)):List (L2.Key × Value):=ps.foldl (fun d p=>pL d p.1 p.2) []
theorem W0(ps:List (L2.Key × Value)):(Ae ps).length<=ps.length:=by
 unfold Ae
 suffices h:∀d:List (L2.Key × Value),(ps.foldl (fun d p=>pL d p.1 p.2) d).length<=d.length+ps.length by simpa using h []
 induction ps with
 |nil=>intro d;simp
 |cons p ps ih =>
  intro d;have:=ih (pL d p.1 p.2);have e:(pL d p.1 p.2).length<=d.length+1:=by unfold pL;split <;> simp
  simp only[CJ,cD];lia
theorem row2     (hx:xs[i]? = some x) (hy:ys[i]? = some y):Row [(l1,xs),(l2,ys)] i [x,y]:=#[rfl,fun k l vs e=>by
 rcases k with _|_|k <;> cases e
 ·exact hx
 ·exact hy]
theorem Mj{b l1 l2 D:Addr}{R:lC->Shared->Prop}(hh:A.handled=none){ps:List (L2.Key × Value)}{xs ys:Array Value}(hk:∀(i:Nat)(p:L2.Key × Value),ps[i]? = some p->∃x,xs[i]? = some x/\(bU prog w).is p.1 x=true/\ys[i]? = some p.2)
  (hn:xs.size=ps.length) (hsz:ps.length<=sizeLine) (hD:b+4<D):
  ∀(k i:Nat)(n:Int)(tk:Tok)(s:Shared),ps.length-i=k->i<=ps.length->ZS b [(l1,xs),(l2,ys)] i s.heap->s.heap.DictOf (bU prog w) D (Ae (ps.take i)) ->
   (∀h' t,h'.DictOf (bU prog w) D (Ae ps)->(∀c o,c<b->s⁻¹ c=some o->h'.get? c=some o)->R (.ok (.ret .none)) { s with heap:=h',toks:=t }) ->
   fY (model prog w) A (.builtin "dict.update.loop" #[[.ref D,.ref (b+4),.int n tk,.none],[]]) R s:=by
 have nD:∀c:Nat,c<=b+4->c≠D:=fun c l=>bJ (oM l hD);intro k
 induction k with
 |zero =>
  intro i n tk s e hi st hd hR;have e:i=ps.length:=by lia
  subst e;rw[jC]at hd;refine pH F.j4 ?_;rw[q9 F.eN _];show wpAny _ A.in1 (fM (.ref (b+4)) >>= _) _ _ s;refine aA (aow (show A.in1.handled=none from hh) st (l:=l1) (xs:=xs) rfl (by rw[<-hn];simp) fun h' q=>?_);show wpAny _ _ (asT D [] >>= _) _ _ _;refine aA (aF (aF (hR h' s.toks ?_ fun c o l g=>q c o (.inl l) g)));obtain⟨o,es,ep,ho,r⟩:=hd;show#[o,es,ep,q _ _ (.inr hD) ho,r]
 |succ k ih =>
  intro i n tk s e hi st hd hR;have lt:i<ps.length:=by lia
  obtain⟨x,hx,kx,hy⟩:=hk i ps[i] (eE lt);refine pH F.j4 ?_;rw[q9 F.eN _];show wpAny _ A.in1 (fM (.ref (b+4)) >>= _) _ _ s;refine aA (ahV st (row2 hx hy) (aeF _) (show 2<=sizeLine by decide) fun h' st' hp _ q=>?_);refine aA (jD (aA (CZ ?_)));unfold asV;refine aA (za (T := "tuple") #[_,hp,rfl] ?_);rw[mI tb_g%];refine aA (oK hp rfl (aF ?_));have hd':h'.DictOf (bU prog w) D (Ae (ps.take i)):=by
   obtain⟨o,es,ep,ho,r⟩:=hd;show#[o,es,ep,q _ _ (.inr hD) ho,r]
  refine jD (wpAny_dictSet_pairs (hsz:=cW (W0 _) (cW (List.length_take_le _ _) tb_g%)) kx hd' fun h2 hd2 sb=>?_);refine aF #[pI F.eN _,ih (i+1) _ _ _ tb_g% lt ?_ ?_ fun h3 t3 hd3 q3=>?_]
  ·refine st'.keep (fun T o _ g=>?_) fun c o l g=>sb.extBut _ _ (nD c l) g;by_cases z:T=D
   ·obtain⟨o2,_,_,ho2,_⟩:=hd2;show#[o2,z ▸ ho2]
   ·show#[o,sb.extBut _ _ z g]
  ·have e2:Ae (ps.take (i+1))=pL (Ae (ps.take i)) ps[i].1 ps[i].2:=by
    unfold Ae;rw[List.take_succ_eq_append_getElem lt,XS];rfl
   rwa[e2]
  ·exact hR h3 t3 hd3 fun c o l g=>q3 c o l (sb.extBut _ _ (nD c (gK (eZ l (mJ _ _)))) (q c o (.inl l) g))
theorem aas{b l1 l2:Addr}{E:Value->Shared->Prop}{s:Shared}{Q:Value->Shared->Prop}(hh:A.handled=none){ps:List (L2.Key × Value)}{xs ys:Array Value}(hk:∀(i:Nat)(p:L2.Key × Value),ps[i]? = some p->∃x,xs[i]? = some x/\(bU prog w).is p.1 x=true/\ys[i]? = some p.2)
  (hn:xs.size=ps.length) (hsz:ps.length<=sizeLine) (st:ZS b [(l1,xs),(l2,ys)] 0 s.heap) (hz:jB s.heap (b+4) (b+2) (b+3) .none false)
  (h:∀h' t,h'.DictOf (bU prog w) (~~~s) (Ae ps)->(∀c o,c<b->s⁻¹ c=some o->h'.get? c=some o)->Q (.ref (~~~s)) { s with heap:=h',toks:=t }):
  wpAny (model prog w) A (call (.type "dict") [.ref (b+4)]) Q E s:=by
 refine aef (Q₁:=fun obj s₁=>obj=.ref (~~~s)/\s₁={ s with heap:=s.heap.push { cls:=.type "dict",data:=.dict #[] } }) F.kt_called_dict (F.kt_typeCall_dict_1 _) F.entry_dict_init (kt_code_dict_new _ #[rfl,rfl]) ?_;rintro obj s₁ ⟨rfl,rfl⟩;have hnew:(s.heap.push { cls:=.type "dict",data:=.dict #[] }).DictOf (bU prog w) (~~~s) []:=amz s.heap;have up:∀c o,s⁻¹ c=some o->(s.heap.push { cls:=.type "dict",data:=.dict #[] }).get? c=some o:=fun c o e=>cH _ e;show#[hnew.typeIs,F.args_dict_init_2 _ _,?_];unfold cO.«dict.__init__»;refine aA ?_;unfold asU;refine aA (wpAny_notOrdered_dict hnew.typeIs ?_);show wpAny _ _ (pure (~~~s,[Value.ref (b+4)])) _ _ _;refine aF ?_;show wpAny _ _ (amm "dict.__init__" (~~~s) (.ref (b+4)) [] .none) _ _ _;unfold amm;refine aA (za (T := "zip") #[_,up _ _ hz,rfl] ?_);rw[mI tb_g%];refine aA (aox (up _ _ hz) (show A.in1.in1.handled=none from hh) fun h1 t1 q1=>?_);refine aA (pK ?_);refine aA (Yg (q1 _ _ (up _ _ hz)) ?_);have u:∀c o,s⁻¹ c=some o->h1.get? c=some o:=fun c o e=>q1 _ _ (up c o e);refine aF #[pI F.eN _,Mj (show A.in1.handled=none from hh) hk hn hsz (aV hz) ps.length 0 _ _ _ rfl (cg _) (st.keep (fun T o _ e=>#[o,u T o e]) fun c o _ e=>u c o e) ?_ fun h' t' hd q=>#[rfl,h h' t' hd fun c o l e=>q c o l (u c o e)]];obtain⟨o,es,ep,ho,r⟩:=hnew;show#[o,es,ep,q1 _ _ ho,r]
end
end PySem
namespace L2
open PySem PySem.Spec PyProof.Rows
def zPut(ns:List Int)(vs:List V):List (Key × V):=(ns.zip vs).foldl (fun d p=>putK d (.inl p.1) p.2) []
def aoy(ta:TA):TE:=fun σ H Q=>ta σ H fun vs H1=>∃a b ns ys,vs=[.ref a,.ref b]/\H1 a=some (.lst (ns.map V.int))/\H1 b=some (.lst ys)/\ns.length=ys.length/\∀p,H1 p=none->Q (.ref p) (upd H1 p (.dK (zPut ns ys)))
theorem acI:∀{ns:List Int}{vs:List V}{us ws:List Value} {d:List (Key × V)} {e:List (Key × Value)},Vals (ns.map V.int) us->Vals vs ws->KV d e ->
  KV ((ns.zip vs).foldl (fun d p=>putK d (.inl p.1) p.2) d) ((ns.zip ws).foldl (fun d p=>pL d (.inl p.1) p.2) e)
 |[],_,_,_,_,_,_,_,r=>by simpa using r
 |_::_,[],_,_,_,_,_,.nil,r=>by simpa using r
 |n::ns,v::vs,_,_,_,_,.cons _ r1,.cons r2 r3,r=>by
  simp only[List.zip_cons_cons,CJ];exact acI r1 r3 (r.put _ r2)
theorem agA{X:Cx}{a b:Expr}{ta:TA}{p p2 pos pos2:Pos}(hc:X.calm=true)(hg:Gl X "dict")(hm:X.mg "dict" = none)(hg2:Gl X "zip")(hm2:X.mg "zip" = none)(ha:PA X [a,b] ta)(hs:cj [a,b] X.env=[(false,eval a X.env),(false,eval b X.env)]:=by rfl)
  (hs2:cj [b] X.env=[(false,eval b X.env)]:=by rfl) (he:cj [.Call (.Name "zip" p2) [a,b] [] pos2] X.env=[(false,eval (.Call (.Name "zip" p2) [a,b] [] pos2) X.env)]:=by rfl):PE X (.Call (.Name "dict" p) [.Call (.Name "zip" p2) [a,b] [] pos2] [] pos) (aoy ta):=by
 k_dat (Q,h) "g"
 refine vm (jW I hg hm (show yX "dict" = some (.type "dict") by decide +kernel) ?_ tb_g% tb_g%);refine zE ?_ he rfl;rw[he];refine vI (x:=eval (.Call (.Name "zip" p2) [a,b] [] pos2) X.env) (rest:=[]) (Call_ (jW I hg2 hm2 afa (zE (thn (ha pos2 pins s σ H _ I h) fun us s1 zq=>?_) (by rw[hs,hs2]) (by rw[hs2];rfl))));obtain⟨vs,H1,I1,r1,q1⟩:=zq;obtain⟨l1,l2,ns,ys,e,e1,e2,len,q⟩:=q1;subst e;cases r1 with
 |cons r rr =>
  cases rr with
  |cons r' rr =>
   cases rr;cases r;cases r';obtain⟨z1,us,n,rv,_,gl⟩:=I1.yM e1;obtain⟨_,vs,m,rw',_,gr⟩:=I1.yM e2;have lu:us.length=ns.length:=by rw[<-rv.length,aD]
   have lv:vs.length=ys.length:=rw'.length.symm;refine call_zip_2 (xs:=us.toArray) (ys:=vs.toArray) #[_,gl,rfl,n,rfl] #[_,gr,rfl,m,rfl] fun h1 z1' z2 z3 z4 z5 z6 hk=>zJ ?_;have lt:∀ {c:Addr} {o:Obj},s1⁻¹ c=some o->c< ~~~s1:=fun g=>aV g;have st:ZS (~~~s1) [(l1,us.toArray),(l2,vs.toArray)] 0 h1:=#[#[fun k l xs e=>by
    rcases k with _|_|k <;> cases e
    ·show#[z4,#[_,hk _ _ gl,rfl,n,rfl],lt gl]
    ·show#[z5,#[_,hk _ _ gr,rfl,m,rfl],lt gr],z2],.inl z1',_,z3,rfl]
   refine aas (b:= ~~~s1) (ps:=(ns.zip vs).map fun p=>(Sum.inl p.1,p.2)) (I1.ok.hd hc) (fun i p hp=>?_) (by rw[bG,aD,ad3];lia) (by rw[aD,ad3];rw[aD]at z1;lia) st z1' fun h' t' hd keep=>?_
   ·rw[cP,lB]at hp;obtain⟨pr,hp,rfl⟩:=hp;obtain⟨w1,w2⟩:=Xp.mp hp;obtain⟨u,hu,ru⟩:=rv.get (x:=.int pr.1) (i:=i) (by rw[cP,w1];rfl);obtain⟨t,rfl⟩:=(show ∃t,u=Value.int pr.1 t from ru);show#[.int pr.1 t,by simpa using hu,V4 pr.1 t,by simpa using w2]
   ·have e:Ae ((ns.zip vs).map fun p=>(Sum.inl p.1,p.2))=(ns.zip vs).foldl (fun d p=>pL d (.inl p.1) p.2) []:=by unfold Ae;rw[List.foldl_map]
    rw[e]at hd;have rel:KV (zPut ns ys) ((ns.zip vs).foldl (fun d p=>pL d (.inl p.1) p.2) []):=acI rv rw' .nil;show#[.ref h1.objs.size,_,I1.laid (t':=t') (fun b u g=>keep b u (lt g) (hk b u g)) (by rw[z6];lia) (afU ?_ ?_ rel hd),rfl,q _ (I1.hok.fresh (by rw[z6];lia))]
    ·rw[rel.length,<-e];refine cW (W0 _) ?_;rw[aD,ad3];rw[aD]at z1;lia
    ·exact xk.mpr (aL (bJ (by rw[z6];exact eZ I1.big (mJ _ _))))
end L2
namespace PySem
open Sem (wp)
abbrev IsTri(h:Heap)(T:Addr)(a b c:Value):Prop:=Tp h T [a,b,c]
abbrev Z3(n l1 l2 l3:Addr)(xs ys zs:Array Value)(i:Nat)(h:Heap):Prop:=ZS n [(l1,xs),(l2,ys),(l3,zs)] i h
theorem ad1(n p q:Nat)(e:p≠q):n+p≠n+q:=by lia
namespace F
theorem Rv(a b c:Value):checkTypeCall "zip" #[[a,b,c],[]]=pure ():=by kernel_rfl
theorem U3(a b c:Value):aec "zip.__new__" #[[.type "zip",a,b,c],[]]=pure ():=by kernel_rfl
theorem El(a b c d:Value):rY "object.__init__" #[[a,b,c,d],[]]:=by
 unfold rY;rw[signature?_of (id := "object.__init__") (n:=['_','_','t','i','n','i','_','_']) (o:=['t','c','e','j','b','o']) (by kernel_rfl) owner_object];kernel_rfl
end F
abbrev Ml(h:Heap)(l1:Addr):Heap:=h.push { cls:=.type "list_iterator",data:=.fields [.ref l1,.int 0 0].toArray }
abbrev z3H3(h:Heap)(l1 l2 l3:Addr):Heap:=Ml (Ml (Ml h l1) l2) l3
abbrev z3H4(h:Heap)(l1 l2 l3:Addr):Heap:=(z3H3 h l1 l2 l3).push { cls:=.type "tuple",data:=.seq [.ref h.objs.size,.ref (Ml h l1).objs.size,.ref (Ml (Ml h l1) l2).objs.size].toArray }
abbrev z3H5(h:Heap)(l1 l2 l3:Addr):Heap:=(z3H4 h l1 l2 l3).push { cls:=.type "tuple",data:=.seq [.none,.none,.none].toArray }
abbrev aat(h:Heap)(l1 l2 l3:Addr):Heap:=(z3H5 h l1 l2 l3).push { cls:=.type "zip",data:=.fields [.none,.bool false,.bool false,.ref (z3H3 h l1 l2 l3).objs.size,.ref (z3H4 h l1 l2 l3).objs.size].toArray }
theorem Rw(l1 l2 l3:Addr)(xs ys zs:Array Value):
  Meets (cO.«zip.__new__» #[[.type "zip",.ref l1,.ref l2,.ref l3],[]]) (fun _ R s=>s.heap.IsList l1 xs/\s.heap.IsList l2 ys/\s.heap.IsList l3 zs /\
   R (.ok (.ret (.ref (z3H5 s.heap l1 l2 l3).objs.size))) { s with heap:=aat s.heap l1 l2 l3 }) :=
 .of_wp fun prog w A R s h=>by
  obtain⟨hp,g,d,tk,os⟩:=s;obtain⟨hl1,hl2,hl3,h⟩:=h;have hsub:=sub_zip;have hL1:YK (afu #[hp,g,d,tk,os]) l1 xs:=hl1;have hL2:YK (afu #[hp.push { cls:=.type "list_iterator",data:=.fields [.ref l1,.int 0 0].toArray },g,d,tk,os]) l2 ys:=afo hl2 _;have hL3:YK (afu #[(hp.push { cls:=.type "list_iterator",data:=.fields [.ref l1,.int 0 0].toArray }).push { cls:=.type "list_iterator",data:=.fields [.ref l2,.int 0 0].toArray },g,d,tk,os]) l3 zs:=afo (afo hl3 _) _
  wp_walk using Io hL1,Io hL2,Io hL3
  show#[_,rfl,h]
section
variable{prog:aN}{w:World}{A:aU}{E:Value->Shared->Prop}{s:Shared}
theorem agB(hl1:s.heap.IsList l1 xs)(hl2:s.heap.IsList l2 ys)(hl3:s.heap.IsList l3 zs)
  (h:∀h',Z3 (~~~s) l1 l2 l3 xs ys zs 0 h'->jB h' (~~~s+5) (~~~s+3) (~~~s+4) .none false->h'.objs.size= ~~~s+6->(∀c o,s⁻¹ c=some o->h'.get? c=some o)->Q (.ref (~~~s+5)) { s with heap:=h' }):
  wpAny (model prog w) A (call (.type "zip") [.ref l1,.ref l2,.ref l3]) Q E s:=by
 refine callType_new F.called_zip tb_g% (F.Rv _ _ _) (F.U3 _ _ _) (fun obj=>F.El obj _ _ _) F.entry_zip_new
  (Rw l1 l2 l3 xs ys zs) #[hl1,hl2,hl3,?_]
 have z1:(Ml s.heap l1).objs.size= ~~~s+1:=pQ ..;have z2:(Ml (Ml s.heap l1) l2).objs.size= ~~~s+2:=by rw[pQ,z1]
 have z3:(z3H3 s.heap l1 l2 l3).objs.size= ~~~s+3:=by rw[pQ,z2]
 have z4:(z3H4 s.heap l1 l2 l3).objs.size= ~~~s+4:=by rw[pQ,z3]
 have z5:(z3H5 s.heap l1 l2 l3).objs.size= ~~~s+5:=by rw[pQ,z4]
 have z6:(aat s.heap l1 l2 l3).objs.size= ~~~s+6:=by rw[pQ,z5]
 have up:∀{h:Heap}{c:Addr}{o p:Obj},h.get? c=some o->(h.push p).get? c=some o:=fun e=>cH _ e;have g6:(aat s.heap l1 l2 l3).get? (z3H5 s.heap l1 l2 l3).objs.size=some _:=cJ _ rfl;have g5:(aat s.heap l1 l2 l3).get? (z3H4 s.heap l1 l2 l3).objs.size=some _:=up (cJ _ rfl);have g4:(aat s.heap l1 l2 l3).get? (z3H3 s.heap l1 l2 l3).objs.size=some _:=up (up (cJ _ rfl));have g3:(aat s.heap l1 l2 l3).get? (Ml (Ml s.heap l1) l2).objs.size=some _:=up (up (up (cJ _ rfl)));have g2:(aat s.heap l1 l2 l3).get? (Ml s.heap l1).objs.size=some _:=up (up (up (up (cJ _ rfl))));have g1:(aat s.heap l1 l2 l3).get? (~~~s)=some _:=up (up (up (up (up (cJ _ rfl)))));have old:∀c o,s⁻¹ c=some o->(aat s.heap l1 l2 l3).get? c=some o:=fun c o e=>up (up (up (up (up (up e)))));show _/\_;rw[z3,z4,z5]at g6;rw[z1,z2,z3]at g4;rw[z4]at g5;rw[z2]at g3;rw[z1]at g2;rw[z5];have lt:∀{l:Addr}{vs:Array Value},s.heap.IsList l vs->l< ~~~s:=fun⟨_,e,_⟩=>aV e;show#[#[_,g6,rfl],h _ #[#[fun k l vs e=>?_,g4],.inl g6,_,g5,rfl] g6 z6 old];rcases k with _|_|_|k
 ·cases e;show#[#[_,g1,rfl,rfl],hl1.at fun o e=>old _ o e,lt hl1]
 ·cases e;show#[#[_,g2,rfl,rfl],hl2.at fun o e=>old _ o e,lt hl2]
 ·cases e;show#[#[_,g3,rfl,rfl],hl3.at fun o e=>old _ o e,lt hl3]
 ·cases e
theorem row3     (hx:xs[i]? = some x) (hy:ys[i]? = some y) (hv:zs[i]? = some v):Row [(l1,xs),(l2,ys),(l3,zs)] i [x,y,v]:=#[rfl,fun k l vs e=>by
 rcases k with _|_|_|k <;> cases e
 ·exact hx
 ·exact hy
 ·exact hv]
def Tris(n S:Addr)(xs ys zs:Array Value)(i:Nat)(h:Heap)(ts:List Addr):Prop:=
 ts.length=i/\ts.Nodup/\∀(j:Nat)(t:Addr),ts[j]? = some t->n+5<t/\t≠S/\∃x y v,xs[j]? = some x/\ys[j]? = some y/\zs[j]? = some v/\IsTri h t x y v
theorem Mp{xs ys zs:Array Value}(hh:A.handled=none)(hS:n+5<S)(e2:ys.size=xs.size)(e3:zs.size=xs.size)(hsz:xs.size<=sizeLine):
  ∀k i s ts c,xs.size-i=k->i<=xs.size->Z3 n l1 l2 l3 xs ys zs i s.heap->s⁻¹ S=some { cls:=.type "list",dict:=none,data:=.seq (ts.map Value.ref).toArray c,slots:=#[] }->Tris n S xs ys zs i s.heap ts ->
   (∀h' ts' c',h'.get? S=some { cls:=.type "list",dict:=none,data:=.seq (ts'.map Value.ref).toArray c',slots:=#[] }->Tris n S xs ys zs xs.size h' ts'->(∀c o,c<n->s⁻¹ c=some o->h'.get? c=some o)->R (.ok (.ret .none)) { s with heap:=h' }) ->
   fY (model prog w) A (.builtin "list.extend.loop" #[[.ref S,.ref (n+5),.none],[]]) R s:=by
 intro k
 induction k with
 |zero =>
  intro i s ts c hk hi st hs ht hR;have e:i=xs.size:=by lia
  subst e;refine pH F.entry_extend_loop ?_;rw[q9 F.plain_extend_loop _];show wpAny _ A.in1 (fM (.ref (n+5)) >>= _) _ _ s;refine aA (aow (show A.in1.handled=none from hh) st (l:=l1) (xs:=xs) rfl (by simp) fun h' q=>aF (hR h' ts c (q _ _ (.inr hS) hs) #[ht.1,ht.2.1,fun j t e=>?_] fun c o l g=>q _ _ (.inl l) g));obtain⟨a1,a2,x,y,v,a3,a4,a5,a6⟩:=ht.2.2 j t e;show#[a1,a2,x,y,v,a3,a4,a5,q _ _ (.inr a1) a6]
 |succ k ih =>
  intro i s ts c hk hi st hs ht hR;have lt:i<xs.size:=by lia
  have hx:xs[i]? = some xs[i]:=aeY lt;have hy:ys[i]? = some (ys[i]'tb_g%):=aeY _;have hv:zs[i]? = some (zs[i]'tb_g%):=aeY _;refine pH F.entry_extend_loop ?_;rw[q9 F.plain_extend_loop _];show wpAny _ A.in1 (fM (.ref (n+5)) >>= _) _ _ s;refine aA (ahV st (row3 hx hy hv) (aeF _) (show 3<=sizeLine by decide) fun h' st' tri sz q=>?_);have hs':=q _ _ (.inr hS) hs;have nS:S≠ ~~~s:=bJ (aV hs);have big:n+5< ~~~s:=m7 hS (aV hs);have len:(ts.map Value.ref).toArray.size=i:=by rw[bG,aD,ht.1]
  have g2:∃c2,(h'.update S (eO (·.push (.ref (~~~s))))).get? S=some { cls:=.type "list",dict:=none,data:=.seq ((ts++[~~~s]).map Value.ref).toArray c2,slots:=#[] }:=by
   obtain⟨c2,e⟩:∃c2,eO (·.push (.ref (~~~s))) { cls:=.type "list",data:=.seq (ts.map Value.ref).toArray c }={ cls:=.type "list",data:=.seq ((ts.map Value.ref).toArray.push (.ref (~~~s))) c2 }:=#[_,rfl];show#[c2,by rw[uq _ hs' rfl,e,List.push_toArray,aR];rfl]
  obtain⟨c2,g2⟩:=g2;show wpAny _ A.in1 (zm S (·.push (.ref (~~~s))) >>= _) _ _ _;refine aA (pJ hs' rfl (aF #[pI F.plain_extend_loop _,ih (i+1) _ (ts++[~~~s]) c2 tb_g% lt ?_ g2 ?_ fun h3 ts3 c3 g3 t3 q3=>?_]) (by rw[len];lia) (by show((ts.map Value.ref).toArray.push _).size<=sizeLine+1;rw[Y9,len];lia))
  ·refine st'.keep (fun T o l g=>?_) fun c o l g=>(pP _ _ (aL (bJ (oM l hS)))).trans g;by_cases z:T=S
   ·subst z;show#[_,uq _ hs' rfl]
   ·show#[o,(pP _ _ (aL z)).trans g]
  ·show#[by rw[cu,ht.1];rfl,?_,fun j t e=>?_]
   ·refine Ii.mpr #[ht.2.1,by simp,fun a ha b hb=>?_];obtain⟨j,hj⟩:=XF ha;obtain⟨_,_,_,_,_,_,_,_,g⟩:=ht.2.2 j a hj;rw[bO.mp hb];exact bJ (aV g)
   ·have oth:∀c o,c≠S->h'.get? c=some o->(h'.update S (eO (·.push (.ref (~~~s))))).get? c=some o:=fun c o e g=>(pP _ _ (aL e)).trans g;rw[List.getElem?_append]at e;by_cases z:j<ts.length
    ·rw[mI z]at e;obtain⟨a1,a2,x,y,v,a3,a4,a5,a6⟩:=ht.2.2 j t e;show#[a1,a2,x,y,v,a3,a4,a5,oth _ _ a2 (q _ _ (.inr a1) a6)]
    ·rw[mB z,List.getElem?_singleton]at e;by_cases z2:j-ts.length=0
     ·rw[mI z2]at e;cases e;have ej:j=i:=by have:=ht.1;lia
      subst ej;show#[big,nS.symm,_,_,_,hx,hy,hv,oth _ _ nS.symm tri]
     ·rw[mB z2]at e;cases e
  ·exact hR h3 ts3 c3 g3 t3 fun c o l g=>q3 c o l ((pP _ _ (aL (bJ (m7 l (oM (mJ n 5) hS))))).trans (q _ _ (.inl l) g))
theorem agC:zc (.type "zip") "__len__" = pure none:=by rw[Iw,Il];kernel_rfl
theorem acJ:zc (.type "zip") "__length_hint__" = pure none:=by rw[Iw,Il];kernel_rfl
theorem U4{n l1 l2 l3:Addr}{xs ys zs:Array Value}{Q:Value->Shared->Prop}(hh:A.handled=none)(hs: ~~~s=n+6)(e2:ys.size=xs.size)(e3:zs.size=xs.size)(hsz:xs.size<=sizeLine)(st:Z3 n l1 l2 l3 xs ys zs 0 s.heap)(hz:jB s.heap (n+5) (n+3) (n+4) .none false)
  (h:∀h' ts c,h'.get? (n+6)=some { cls:=.type "list",dict:=none,data:=.seq (ts.map Value.ref).toArray c,slots:=#[] }->Tris n (n+6) xs ys zs xs.size h' ts->(∀c o,c<n->s⁻¹ c=some o->h'.get? c=some o)->Q (.ref (n+6)) { s with heap:=h' }):
  wpAny (model prog w) A (call (.type "list") [.ref (n+5)]) Q E s:=by
 refine aef (Q₁:=fun obj s₁=>obj=.ref (~~~s)/\s₁={ s with heap:=s.heap.push { cls:=.type "list",data:=.seq #[] } }) F.called_list (F.typeCall_list_1 _) F.entry_list_init (akZ _ #[rfl,rfl]) fun obj s₁ h₁=>?_;obtain⟨rfl,rfl⟩:=h₁;rw[hs];have hS:(s.heap.push { cls:=.type "list",data:=.seq #[] }).get? (n+6)=some { cls:=.type "list",data:=.seq #[] }:=by rw[<-hs];exact cJ _ rfl
 have z0:(s.heap.push { cls:=.type "list",data:=.seq #[] }).get? (n+5)=some _:=cH _ hz;show#[#[_,hS,rfl],F.args_list_init_2 _ _,?_];show wpAny _ A.in1.in1 (do let old <-Qi (.ref (n+6));alM (.ref (n+6)) (fun _=>#[]);letGo old.toList.reverse;xX (.ref (n+6)) (.ref (n+5)) .none) _ _ _;refine aA ?_;unfold Qi;refine aA (oK hS rfl (aF ?_));show wpAny _ A.in1.in1 (zm (n+6) (fun _=>#[]) >>= fun _=>letGo (#[]:Array Value).toList.reverse >>= fun _=>xX (.ref (n+6)) (.ref (n+5)) .none) _ _ _;refine aA (pJ hS rfl ?_);have hS₂:=uq (eO (fun _=>(#[]:Array Value))) hS rfl;have oth:∀(h:Heap)(f:Obj->Obj) b o,b≠n+6->h.get? b=some o->(h.update (n+6) f).get? b=some o:=fun h f b o hb e=>(pP _ _ (aL hb)).trans e;have z1:=oth _ (eO (fun _=>(#[]:Array Value))) _ _ (ad1 n 5 6 tb_g%) z0;refine aA (Dc ?_);unfold xX;refine aA (za (T := "zip") #[_,z1,rfl] ?_);have h1:Jk (.ref (n+6)) (.ref (n+5))=false:=by simp[Jk]
 have h2:(Value.type "zip" == Value.type "list")=false:=by decide
 have h3:(Value.type "zip" == Value.type "tuple")=false:=by decide
 simp only [h1,h2,h3,aeS,Dv,if_false];refine aA (Yg (f0:=.none) z1 ?_);refine aA (jD ?_);unfold Qh;refine aA (Iv (T := "zip") #[_,z1,rfl] agC ?_);show wpAny _ _ (specialOf (Value.ref (n+5)) (aW "__length_hint__") >>= _) _ _ _;refine aA (Iv (T := "zip") #[_,z1,rfl] acJ ?_);refine aF ?_;show wpAny _ _ (rule "list.extend.makes-room" >>= fun _=>asp (.ref (n+6)) >>= fun _ =>
  again (.builtin "list.extend.loop" #[[.ref (n+6),.ref (n+5),.none],[]])) _ _ _
 refine aA (pK ?_);refine aA ?_;show wpAny _ _ (zm (n+6) (·.push .none) >>= fun _=>zm (n+6) (·.pop)) _ _ _;refine aA (pJ hS₂ rfl ?_);have hS₃:=uq (eO (·.push Value.none)) hS₂ rfl;refine pJ (hz:=by seq_fits) hS₃ rfl ?_;have hS₄:=uq (eO (·.pop)) hS₃ rfl;have up:∀c o,s⁻¹ c=some o->((((s.heap.push { cls:=.type "list",data:=.seq #[] }).update (n+6) (eO (fun _=>(#[]:Array Value)))).update (n+6) (eO (·.push Value.none))).update (n+6) (eO (·.pop))).get? c=some o:=fun c o e =>
  have ne:c≠n+6:=by rw[<-hs];exact bJ (aV e)
  oth _ _ _ _ ne (oth _ _ _ _ ne (oth _ _ _ _ ne (cH _ e)))
 refine aF #[pI F.plain_extend_loop _,Mp (show A.in1.handled=none from hh) (sH (n+5)) e2 e3 hsz xs.size 0 _ [] _ rfl (cg _) (st.keep (fun T o _ e=>#[o,up T o e]) fun c o _ e=>up c o e) hS₄ #[rfl,.nil,fun j t e=>by simp at e] fun h' ts c g t q=>#[rfl,h h' ts c g t fun c o l e=>q c o l (up c o e)]]
end
end PySem
namespace L2
open PySem PySem.Spec PyProof.Rows
section
variable{X:Cx}{σ:St}{H H':Hp}{s:Shared}{h':Heap}
theorem Inv.grow(I:Inv X pins σ H s)(k:∀b u,s⁻¹ b=some u->h'.get? b=some u)(hb:∀b,b<(~~~s)->H' b=H b)(new:∀b o,~~~s<=b->H' b=some o->dD X.prog X.w H' h' b o):Inv X pins σ H' { s with heap:=h',toks:=t' }:=by
 have ht:∀b u,H b=some u->H' b=some u:=fun b u e=>by
  rwa[hb b (Nat.lt_of_not_le fun l=>by rw[I.hok.fresh l]at e;cases e)]
 refine I.step (g':=s.gens) (d':=s.drawn) (ch:=[]) (fun b hb=>mM hb (by simp)) (fun b o _ _ _ e _=>k b o e) (fun b o _ _ _ e _=>#[o.slots,k b o e]) (fun b u _ e n=>by rwa[hb b (aV e)])
  (fun b o _ e=>#[o,k b o e]) (fun b xs e=>ht _ _ e) (fun b q u e=>ht _ _ e) (fun b ps e=>#[#[],by rw[ht _ _ e];simp]) (fun m hm=>?_) (fun b u e=>?_) I.bare
 ·obtain⟨o,es,ep,ho,r⟩:=hm;show#[o,es,ep,k _ o ho,r]
 ·by_cases l:b< ~~~s
  ·rw[hb b l]at e;exact(I.hok b u e).stay (fun c v _ q=>k c v q) (fun c q=>ht _ _ q) fun c xs q=>ht _ _ q
  ·exact new b u (aeE l) e
def Mq(H:Hp):List Addr->List (List V)->Hp
 |t::ts,r::rs=>upd (Mq H ts rs) t (.tup r)
 |_,_=>H
theorem Rx{H:Hp}:∀{ts:List Addr} {rs:List (List V)},b∉ts->Mq H ts rs b=H b
 |[],_,_=>rfl
 |_::_,[],_=>rfl
 |t::ts,r::rs,h=>by
  rw[aP,not_or]at h;show upd _ _ _ b=_;rw[ao h.1,Rx h.2]
theorem W6{H:Hp}:∀{ts:List Addr} {rs:List (List V)},Mq H ts rs b=some o->(∃(i:Nat)(r:List V),ts[i]? = some b/\rs[i]? = some r/\o=.tup r)\/H b=some o
 |[],_,h=>.inr h
 |_::_,[],h=>.inr h
 |t::ts,r::rs,h=>by
  by_cases e:b=t
  ·subst e;have h:upd (Mq H ts rs) b (.tup r) b=some o:=h;rw[aj]at h;cases h;exact .inl #[0,r,rfl,rfl,rfl]
  ·have h:upd (Mq H ts rs) t (.tup r) b=some o:=h;rw[ao e]at h;rcases W6 h with⟨i,r',a,b',c⟩|h
   ·exact .inl #[i+1,r',by simpa using a,by simpa using b',c]
   ·exact .inr h
theorem ahW{H:Hp}:∀{ts:List Addr} {rs:List (List V)} {i:Nat} {b:Addr} {r:List V},ts.Nodup->ts[i]? = some b->rs[i]? = some r->Mq H ts rs b=some (.tup r)
 |[],_,_,_,_,_,h,_=>by simp at h
 |_::_,[],_,_,_,_,_,h=>by simp at h
 |t::ts,r'::rs,i,b,r,n,h,h2=>by
  show upd (Mq H ts rs) t (.tup r') b=_;cases i with
  |zero=>cases h;cases h2;rw[aj]
  |succ i =>
   have h:ts[i]? = some b:=by simpa using h
   have ne:b≠t:=fun e=>(iu.mp n).1 (by rw[<-e];exact mv h);rw[ao ne];exact ahW (iu.mp n).2 h (by simpa using h2)
def ahX(xs ys zs:List V):List (List V):=(xs.zip (ys.zip zs)).map fun r=>[r.1,r.2.1,r.2.2]
def ajg(ta:TA):TE:=fun σ H Q=>ta σ H fun vs H1=>∃a b c xs ys zs,vs=[.ref a,.ref b,.ref c]/\H1 a=some (.lst xs)/\H1 b=some (.lst ys)/\H1 c=some (.lst zs)/\ys.length=xs.length/\zs.length=xs.length /\
 ∀p ts,H1 p=none->(∀t∈ts,H1 t=none/\t≠p)->ts.Nodup->ts.length=xs.length->Q (.ref p) (upd (Mq H1 ts (ahX xs ys zs)) p (.lst (ts.map V.ref)))
theorem Ry:∀ts:List Addr,Vals (ts.map V.ref) (ts.map Value.ref)
 |[]=>.nil
 |_::ts=>.cons rfl (Ry ts)
theorem acK{a b c:Expr}{ta:TA}{p p2 pos pos2:Pos}(hc:X.calm=true)(hg:Gl X "list")(hm:X.mg "list" = none)(hg2:Gl X "zip")(hm2:X.mg "zip" = none)(ha:PA X [a,b,c] ta)(hs:cj [a,b,c] X.env=(false,eval a X.env)::cj [b,c] X.env:=by rfl)
  (hs2:(fK pos2 (cj [b,c] X.env)).any (·.1)=false:=by rfl) (he:cj [.Call (.Name "zip" p2) [a,b,c] [] pos2] X.env=[(false,eval (.Call (.Name "zip" p2) [a,b,c] [] pos2) X.env)]:=by rfl):PE X (.Call (.Name "list" p) [.Call (.Name "zip" p2) [a,b,c] [] pos2] [] pos) (ajg ta):=by
 k_dat (Q,h) "g"
 refine vm (jW I hg hm (show yX "list" = some (.type "list") by decide +kernel) ?_ tb_g% tb_g%);refine zE ?_ he rfl;rw[he];refine vI (x:=eval (.Call (.Name "zip" p2) [a,b,c] [] pos2) X.env) (rest:=[]) (Call_ (jW I hg2 hm2 afa (zE (thn (ha pos2 pins s σ H _ I h) fun us s1 zq=>?_) hs hs2)));obtain⟨vs,H1,I1,r1,q1⟩:=zq;obtain⟨l1,l2,l3,xs,ys,zs,e,e1,e2,e3,len2,len3,q⟩:=q1;subst e;cases r1 with
 |cons r rr =>
  cases rr with
  |cons r' rr =>
   cases rr with
   |cons r'' rr =>
    cases rr;cases r;cases r';cases r'';obtain⟨z1,us,n1,rv1,lu,g1⟩:=I1.yM e1;obtain⟨_,vs,n2,rv2,lv,g2⟩:=I1.yM e2;obtain⟨_,ws,n3,rv3,lw,g3⟩:=I1.yM e3;refine agB (xs:=us.toArray) (ys:=vs.toArray) (zs:=ws.toArray) #[_,g1,rfl,n1,rfl] #[_,g2,rfl,n2,rfl] #[_,g3,rfl,n3,rfl] fun h1 st hz z6 hk=>zJ ?_;refine U4 (I1.ok.hd hc) z6 (by rw[bG,bG];lia) (by rw[bG,bG];lia) (by rw[bG];lia) st hz fun h' ts k gS tr keep=>?_;have lt:ts.length=xs.length:=by rw[tr.1,bG];lia
    have nt:∀t∈ts,~~~s1+5<t/\t≠ ~~~s1+6:=fun t m=>by
     obtain⟨j,hj⟩:=XF m;show#[(tr.2.2 j t hj).1,(tr.2.2 j t hj).2.1]
    show#[.ref (~~~s1+6),_,I1.grow (t':=s1.toks) (H':=upd (Mq H1 ts (ahX xs ys zs)) (~~~s1+6) (.lst (ts.map V.ref))) (fun b u e=>keep b u (aV e) (hk b u e)) (fun b l=>?_) (fun b o l e=>?_),rfl,
     q _ ts (I1.hok.fresh (mJ _ _)) (fun t m=>#[I1.hok.fresh (gK (oM (mJ _ 5) (nt t m).1)),(nt t m).2]) tr.2.1 lt]
    ·rw[ao (bJ (eZ l (mJ _ _))),Rx fun m=>oN b (m7 (eZ l (mJ _ 5)) (nt b m).1)]
    ·by_cases z:b= ~~~s1+6
     ·subst z;rw[aj]at e;cases e;show#[by rwa[aD,lt],_,k,Ry ts,gS]
     ·rw[ao z]at e;rcases W6 e with⟨i,r,a1,a2,rfl⟩|e
      ·obtain⟨_,_,x,y,v,b1,b2,b3,b4⟩:=tr.2.2 i b a1;unfold ahX at a2;rw[cP,lB]at a2;obtain⟨⟨x',y',v'⟩,a2,rfl⟩:=a2;obtain⟨c1,c2⟩:=Xp.mp a2;obtain⟨c2,c3⟩:=Xp.mp c2;obtain⟨u1,d1,f1⟩:=rv1.get c1;obtain⟨u2,d2,f2⟩:=rv2.get c2;obtain⟨u3,d3,f3⟩:=rv3.get c3;have i1:u1=x:=by simpa[d1]using b1
       have i2:u2=y:=by simpa[d2]using b2
       have i3:u3=v:=by simpa[d3]using b3
       subst i1 i2 i3;show#[tb_g%,_,.cons f1 (.cons f2 (.cons f3 .nil)),#[_,b4,rfl,0,rfl]]
      ·rw[I1.hok.fresh l]at e;cases e
end
end L2
set_option maxHeartbeats 4000000
namespace My
open PySem L2 MG
set_option genInjectivity false in
set_option genSizeOf false in
structure Ad where
 C'0:Addr
 C'1:Addr
 C'2:Addr
 C'3:Addr
 C'4:Addr
 C'5:Addr
 aau:Addr
 aav:FuncData
 U5:Addr
 U6:FuncData
 aqI:Addr
 aqJ:FuncData
 aaw:Addr
 aax:FuncData
 Rz:Addr
 RD:FuncData
 ajh:Addr
 aji:FuncData
 aoz:Addr
 aoA:FuncData
 GJ:Addr
 aay:FuncData
 acL:Addr
 acM:FuncData
 aoB:Addr
 aoC:FuncData
 Ck:Addr
 U7:FuncData
 Mr:Addr
 Ms:FuncData
 aaz:Addr
 aaA:FuncData
 U8:Addr
 U9:FuncData
 aoD:Addr
 aoE:FuncData
 au3:Addr
 au4:FuncData
 yj:Addr
 Mt:FuncData
 agD:Addr
 agE:FuncData
 GP:Addr
 GQ:FuncData
 RJ:Addr
 RK:FuncData
 yp:Addr
 Mu:FuncData
 aoF:Addr
 aoG:FuncData
 ajj:Addr
 ajk:FuncData
 RL:Addr
 RM:FuncData
 RN:Addr
 RQ:FuncData
 agF:Addr
 agG:FuncData
 Af:Addr
 RT:FuncData
 Va:Addr
 Vb:FuncData
 RW:Addr
 RX:FuncData
 RZ:Addr
 R4:FuncData
 Mv:Addr
 Mw:FuncData
 Mx:Addr
 Mz:FuncData
 yq:Addr
 MF:FuncData
 aqK:Addr
 aqL:FuncData
 aaB:Addr
 aaC:FuncData
 aaD:Addr
 aaE:FuncData
 Vc:Addr
 Vd:FuncData
 agH:Addr
 agI:FuncData
 aaF:Addr
 aaG:FuncData
 aoH:Addr
 aoI:FuncData
 GR:Addr
 GZ:FuncData
 ajl:Addr
 ajm:FuncData
 R5:Addr
 R6:FuncData
 agJ:Addr
 agK:FuncData
 JW:Addr
 JX:FuncData
 G9:Addr
 Hf:FuncData
 aaH:Addr
 aaI:FuncData
 aoJ:Addr
 aoK:FuncData
 ajn:Addr
 ajo:FuncData
 f_row:Addr
 d_row:FuncData
 R7:Addr
 R9:FuncData
 Ve:Addr
 Vf:FuncData
 JZ:Addr
 J0:FuncData
 ajp:Addr
 ajq:FuncData
 aaJ:Addr
 aaK:FuncData
 ajr:Addr
 ajs:FuncData
 ajt:Addr
 aju:FuncData
 au5:Addr
 au6:FuncData
 acN:Addr
 acO:FuncData
 aaL:Addr
 aaM:FuncData
 Sg:Addr
 Sq:FuncData
 acP:Addr
 acQ:FuncData
 agL:Addr
 agM:FuncData
 acR:Addr
 acS:FuncData
 aoL:Addr
 aoM:FuncData
 MJ:Addr
 MN:FuncData
 J8:Addr
 J9:FuncData
 Hg:Addr
 Hh:FuncData
 aaN:Addr
 aaO:FuncData
 Vg:Addr
 Vh:FuncData
 Ss:Addr
 Sv:FuncData
 aaP:Addr
 aaQ:FuncData
 Sw:Addr
 Sy:FuncData
 Ka:Addr
 Kc:FuncData
 acT:Addr
 acU:FuncData
 MP:Addr
 M5:FuncData
 aaR:Addr
 aaS:FuncData
 Vi:Addr
 Vj:FuncData
 M6:Addr
 M7:FuncData
 acV:Addr
 acW:FuncData
 M8:Addr
 M9:FuncData
 agN:Addr
 agO:FuncData
 ajv:Addr
 ajw:FuncData
 acX:Addr
 acY:FuncData
 arV:Addr
 d_law:FuncData
structure Tx(K:aH)(mg:Str->Option Value)(A:Ad):Prop where
 fU:Cls K A.C'0
 ahY:mg "Rungs" = some (.ref A.C'0)
 afz:Mk K A.C'0 A.GJ
 na'6:cB K A.C'0 "room"
 agP:cB K A.C'0 "total"
 agQ:cB K A.C'0 "over"
 agR:cB K A.C'0 "under"
 Lj:cB K A.C'0 "turns"
 SJ:cB K A.C'0 "least"
 SM:cB K A.C'0 "most"
 W8:cB K A.C'0 "rungs"
 uN:Cls K A.C'1
 acZ:mg "Window" = some (.ref A.C'1)
 afA:Mk K A.C'1 A.Ck
 ahZ:cB K A.C'1 "room"
 ah0:cB K A.C'1 "reach"
 Ln:cB K A.C'1 "clock"
 W9:cB K A.C'1 "boxes"
 wK:Cls K A.C'2
 SN:mg "Distinct" = some (.ref A.C'2)
 afB:Mk K A.C'2 A.yj
 ah1:cB K A.C'2 "room"
 SQ:cB K A.C'2 "arrivals"
 SX:cB K A.C'2 "level"
 Xa:cB K A.C'2 "kept"
 uO:Cls K A.C'3
 S5:mg "Frequent" = some (.ref A.C'3)
 afC:Mk K A.C'3 A.yp
 ah2:cB K A.C'3 "room"
 S6:cB K A.C'3 "total"
 S7:cB K A.C'3 "lost"
 Xb:cB K A.C'3 "counts"
 Vk:Cls K A.C'4
 Xc:mg "Balance" = some (.ref A.C'4)
 afD:Mk K A.C'4 A.Af
 ah3:cB K A.C'4 "span"
 Lp:cB K A.C'4 "sums"
 jK:Cls K A.C'5
 En:mg "Keepsake" = some (.ref A.C'5)
 abF:Mk K A.C'5 A.yq
 ah4:cB K A.C'5 "room"
 ah5:cB K A.C'5 "reach"
 ah6:cB K A.C'5 "span"
 ac0:cB K A.C'5 "came"
 ac1:cB K A.C'5 "went"
 ac2:cB K A.C'5 "up"
 ac3:cB K A.C'5 "down"
 ac4:cB K A.C'5 "window"
 ac5:cB K A.C'5 "seen"
 ac6:cB K A.C'5 "balance"
 wL:Fg K mg "with_thing" vJ A.aau A.aav ["lists","thing","weight"]
 tQ:Fg K mg "left_behind" sX A.U5 A.U6 ["things"]
 aaT:Fg K mg "risen" ZJ A.aqI A.aqJ ["things","turns"]
 wM:Mg K A.C'0 "turn" "Rungs.turn" vK A.aaw A.aax Q19
 qy:Mg K A.C'0 "settle" "Rungs.settle" pU A.Rz A.RD ["self","lists"]
 Bs:Fg K mg "greater" Js A.ajh A.aji Q1
 Hi:Fg K mg "lesser" Qw A.aoz A.aoA Q1
 wO:Mg K A.C'0 "__init__" "Rungs.__init__" vL A.GJ A.aay Q3
 Ag:Mg K A.C'0 "add" "Rungs.add" zK A.acL A.acM Q2
 S8:Fg K mg "joined" Qx A.aoB A.aoC ["boxes","room"]
 tR:Mg K A.C'1 "__init__" "Window.__init__" sY A.Ck A.U7 Q20
 nR:Mg K A.C'1 "settle" "Window.settle" m8 A.Mr A.Ms ["self","boxes"]
 wQ:Mg K A.C'1 "add" "Window.add" vM A.aaz A.aaA ["self","weight"]
 tU:Mg K A.C'1 "idle" "Window.idle" sZ A.U8 A.U9 Q15
 S9:Fg K mg "spread" Qy A.aoD A.aoE Q11
 agS:Fg K mg "mark" afx A.au3 A.au4 Q11
 nT:Mg K A.C'2 "__init__" "Distinct.__init__" m9 A.yj A.Mt Q3
 Eo:Fg K mg "of_marks" DN A.agD A.agE ["things","level"]
 j7:Mg K A.C'2 "settle" "Distinct.settle" jQ A.GP A.GQ ["self","things"]
 qz:Mg K A.C'2 "add" "Distinct.add" pW A.RJ A.RK ["self","thing"]
 nU:Mg K A.C'3 "__init__" "Frequent.__init__" ni A.yp A.Mu Q3
 Tc:Fg K mg "cut_of" Qz A.aoF A.aoG ["counts","room"]
 Kd:Fg K mg "lowered" Jt A.ajj A.ajk ["counts","cut"]
 qC:Mg K A.C'3 "fit" "Frequent.fit" pY A.RL A.RM ["self","grown"]
 qD:Mg K A.C'3 "add" "Frequent.add" pZ A.RN A.RQ Q2
 Er:Fg K mg "with_row" DQ A.agF A.agG ["sums","thing","weight"]
 qF:Mg K A.C'4 "__init__" "Balance.__init__" p8 A.Af A.RT ["self","span"]
 tV:Mg K A.C'4 "put" "Balance.put" tu A.Va A.Vb Q2
 qG:Mg K A.C'4 "take" "Balance.take" qe A.RW A.RX Q2
 qH:Mg K A.C'5 "put" "Keepsake.put" qg A.RZ A.R4 Q2
 nY:Mg K A.C'5 "take" "Keepsake.take" nA A.Mv A.Mw Q2
 nZ:Mg K A.C'5 "idle" "Keepsake.idle" nF A.Mx A.Mz Q15
 n8:Mg K A.C'5 "__init__" "Keepsake.__init__" nH A.yq A.MF Q21
 aaU:Fg K mg "_law_mix" ZL A.aqK A.aqL Q22
 iY:Fg K mg "_law_far_back" vN A.aaB A.aaC []
 wR:Fg K mg "_law_thing_by" vO A.aaD A.aaE Q10
 tW:Fg K mg "_law_weight_by" tD A.Vc A.Vd Q10
 Es:Fg K mg "_law_row_by" DR A.agH A.agI Q10
 wU:Fg K mg "_law_shape_by" vP A.aaF A.aaG Q10
 Td:Fg K mg "_law_done" QB A.aoH A.aoI Q23
 j8:Fg K mg "poured_frequent" jR A.GR A.GZ Q1
 Ke:Fg K mg "list_at" Ju A.ajl A.ajm ["lists","place"]
 qI:Fg K mg "poured_rungs" qj A.R5 A.R6 Q1
 Et:Fg K mg "followed" DW A.agJ A.agK Q1
 lO:Fg K mg "poured_balance" lH A.JW A.JX Q1
 j9:Fg K mg "poured_distinct" jT A.G9 A.Hf Q1
 wV:Fg K mg "empty_like" vQ A.aaH A.aaI Q16
 Te:Fg K mg "poured" QC A.aoJ A.aoK Q1
 Kf:Fg K mg "figures" Jv A.ajn A.ajo ["number"]
 aoN:Fg K mg "row" s_row A.f_row A.d_row ["numbers"]
 qJ:Fg K mg "window_words" ql A.R7 A.R9 ["part"]
 tX:Fg K mg "rungs_words" tE A.Ve A.Vf ["part"]
 lQ:Fg K mg "frequent_words" lJ A.JZ A.J0 ["part"]
 Kg:Fg K mg "written" Jw A.ajp A.ajq Q16
 wW:Fg K mg "_law_frequent" vR A.aaJ A.aaK Q17
 Kl:Fg K mg "_law_rungs" Jx A.ajr A.ajs Q17
 Ko:Fg K mg "_law_state" Jy A.ajt A.aju ["_law_keepsake"]
 agT:Fg K mg "need" afy A.au5 A.au6 ["holds","line"]
 Ah:Fg K mg "number_of" zL A.acN A.acO Q12
 wX:Fg K mg "numbers_of" vU A.aaL A.aaM Q13
 qK:Fg K mg "sound_bounds" qm A.Sg A.Sq Q24
 Ai:Fg K mg "bounds_of" zM A.acP A.acQ Q13
 Eu:Fg K mg "words_of" DX A.agL A.agM ["lines","line","name"]
 Aj:Fg K mg "signed_of" zN A.acR A.acS Q12
 Tf:Fg K mg "parted" QD A.aoL A.aoM ["words"]
 oh:Fg K mg "rising_things" nJ A.MJ A.MN ["things"]
 lR:Fg K mg "sound_frequent" lK A.J8 A.J9 ["frequent","things"]
 kj:Fg K mg "stand_for_total" jU A.Hg A.Hh ["rungs"]
 wY:Fg K mg "sound_list" vV A.aaN A.aaO Q18
 tY:Fg K mg "sound_rungs" tG A.Vg A.Vh ["rungs"]
 qL:Fg K mg "sound_places" qp A.Ss A.Sv Q14
 wZ:Fg K mg "sound_sums" vX A.aaP A.aaQ Q14
 qM:Fg K mg "sound_window" qt A.Sw A.Sy Q14
 lU:Fg K mg "sound_distinct" lM A.Ka A.Kc ["distinct"]
 Ak:Fg K mg "read_keep" zO A.acT A.acU Q13
 ou:Fg K mg "read_frequent" nM A.MP A.M5 ["frequent","words","line"]
 xg:Fg K mg "read_rungs" vY A.aaR A.aaS ["rungs","words","line"]
 tZ:Fg K mg "read_window" tH A.Vi A.Vj ["window","words","line"]
 oA:Fg K mg "read_distinct" nO A.M6 A.M7 ["distinct","words","line"]
 Am:Fg K mg "read_sums" zP A.acV A.acW Q25
 oE:Fg K mg "read_keepsake" nQ A.M8 A.M9 ["text"]
 Ew:Fg K mg "_law_pieces" DY A.agN A.agO ["_law_script"]
 Kq:Fg K mg "_law_noted" Jz A.ajv A.ajw Q26
 Ao:Fg K mg "_law_last_of" zQ A.acX A.acY Q27
 aoO:Fg K mg "law" amN A.arV A.d_law ["_law_script"]
 n_abs:mg "abs" = none
 ah7:mg "all" = none
 agU:mg "dict" = none
 n_int:mg "int" = none
 n_len:mg "len" = none
 Ey:mg "list" = none
 ac7:mg "max" = none
 aoP:mg "min" = none
 ah8:mg "range" = none
 qN:mg "reversed" = none
 n_set:mg "set" = none
 kE:mg "sorted" = none
 n_str:mg "str" = none
 aoQ:mg "sum" = none
 ah9:mg "zip" = none
 ajx:∃u,mg "FIGURES" = some u/\RelV (.str "0123456789") u
 aaV:∃u,mg "LEAST_ROOM" = some u/\RelV (.int 2) u
 aqM:∃u,mg "LINES" = some u/\RelV (.int 8) u
 agV:∃u,mg "MOST" = some u/\RelV (.int 1152921504606846976) u
 Tg:∃u,mg "MOST_FIGURES" = some u/\RelV (.int 60) u
 Nf:∃u,mg "MOST_HALVINGS" = some u/\RelV (.int 60) u
 aaW:∃u,mg "MOST_LEVEL" = some u/\RelV (.int 60) u
 aaX:∃u,mg "MOST_REACH" = some u/\RelV (.int 1000000000) u
 ac8:∃u,mg "MOST_ROOM" = some u/\RelV (.int 64) u
 ac9:∃u,mg "MOST_SPAN" = some u/\RelV (.int 1000000000) u
 aqN:∃u,mg "PIECE" = some u/\RelV (.int 1000000000000000000000000000000) u
 Ng:∃u,mg "PIECE_FIGURES" = some u/\RelV (.int 30) u
 aoR:∃u,mg "SPREAD" = some u/\RelV (.int 770093176312745717) u
 av1:Jf K (.type "int") (.type "int")=some true
 au7:Jf K (.type "int") (.type "bool")=some false
variable{P:aN}{w:World}{K:aH}{mg:Str->Option Value}{base:Heap}{A:Ad}
local macro_rules | `(tactic| walk_at "sc") => `(tactic| exact ⟨rfl, rfl, rfl, by decide +kernel, rfl, by decide +kernel, by decide +kernel⟩)
theorem Cm:aC ["lists","thing","weight","grown","place","bits"] ["lists","thing","weight"] (aq vJ):=tb_g%
theorem Ti:aC ["things"] ["things"] (aq sX):=tb_g%
theorem aoS:aC ["things","turns"] ["things","turns"] (aq ZJ):=tb_g%
theorem Vl:aC Q19 Q19 (aq vK):=tb_g%
theorem yt:aC ["self","lists","settled","place","stands_for","things"] ["self","lists"] (aq pU):=tb_g%
theorem Ez:aC ["one","other","known"] Q1 (aq Js):=tb_g%
theorem Kr:aC ["one","other","known"] Q1 (aq Qw):=tb_g%
theorem Vm:aC Q3 Q3 (aq vL):=tb_g%
theorem aaY:aC Q2 Q2 (aq zK):=tb_g%
theorem Xd:aC ["boxes","room","done","newer","at_hand","box"] ["boxes","room"] (aq Qx):=tb_g%
theorem Tj:aC Q20 Q20 (aq sY):=tb_g%
theorem iZ:aC ["self","boxes","edge","within"] ["self","boxes"] (aq m8):=tb_g%
theorem Vn:aC ["self","weight"] ["self","weight"] (aq vM):=tb_g%
theorem Tn:aC Q15 Q15 (aq sZ):=tb_g%
theorem ajy:aC Q11 Q11 (aq Qy):=tb_g%
theorem aia:aC ["thing","rest","halvings"] Q11 (aq afx):=tb_g%
theorem Ks:aC Q3 Q3 (aq m9):=tb_g%
theorem ada:aC ["things","level"] ["things","level"] (aq DN):=tb_g%
theorem qO:aC ["self","things","left"] ["self","things"] (aq jQ):=tb_g%
theorem Nh:aC ["self","thing"] ["self","thing"] (aq pW):=tb_g%
theorem Ku:aC Q3 Q3 (aq ni):=tb_g%
theorem Xe:aC ["counts","room","falling"] ["counts","room"] (aq Qz):=tb_g%
theorem Tq:aC ["counts","cut","left","thing","count"] ["counts","cut"] (aq Jt):=tb_g%
theorem yu:aC ["self","grown","cut"] ["self","grown"] (aq pY):=tb_g%
theorem yw:aC ["self","thing","weight","grown"] Q2 (aq pZ):=tb_g%
theorem Lq:aC ["sums","thing","weight","grown","share","held"] ["sums","thing","weight"] (aq DQ):=tb_g%
theorem Ni:aC ["self","span"] ["self","span"] (aq p8):=tb_g%
theorem Tt:aC Q2 Q2 (aq tu):=tb_g%
theorem Nj:aC Q2 Q2 (aq qe):=tb_g%
theorem Nm:aC Q2 Q2 (aq qg):=tb_g%
theorem Kv:aC Q2 Q2 (aq nA):=tb_g%
theorem Kw:aC Q15 Q15 (aq nF):=tb_g%
theorem Ky:aC Q21 Q21 (aq nH):=tb_g%
theorem aoT:aC Q22 Q22 (aq ZL):=tb_g%
theorem Cp:aC ["_law_way","_law_turn"] [] (aq vN):=tb_g%
theorem Cq:aC ["_law_cell","_law_how","_law_high"] Q10 (aq vO):=tb_g%
theorem Tv:aC Q10 Q10 (aq tD):=tb_g%
theorem Lr:aC ["_law_cell","_law_kind","_law_thing","_law_weight"] Q10 (aq DR):=tb_g%
theorem Cr:aC ["_law_cell","_law_room","_law_reach","_law_span"] Q10 (aq vP):=tb_g%
theorem ajz:aC Q23 Q23 (aq QB):=tb_g%
theorem qP:aC ["one","other","poured","together","thing","count"] Q1 (aq jR):=tb_g%
theorem agW:aC ["lists","place"] ["lists","place"] (aq Ju):=tb_g%
theorem yx:aC ["one","other","poured","together","place"] Q1 (aq qj):=tb_g%
theorem Aq:aC ["one","other","both","behind"] Q1 (aq DW):=tb_g%
theorem rF:aC ["one","other","poured"] Q1 (aq lH):=tb_g%
theorem qQ:aC ["one","other","poured"] Q1 (aq jT):=tb_g%
theorem Vo:aC Q16 Q16 (aq vQ):=tb_g%
theorem Xf:aC ["one","other","both"] Q1 (aq QC):=tb_g%
theorem Tw:aC ["number","pieces","rest"] ["number"] (aq Jv):=tb_g%
theorem au8:aC ["numbers"] ["numbers"] (aq s_row):=tb_g%
theorem yC:aC ["part","numbers","box"] ["part"] (aq ql):=tb_g%
theorem Ar:aC ["part","numbers","words","things"] ["part"] (aq tE):=tb_g%
theorem rG:aC ["part","numbers","thing"] ["part"] (aq lJ):=tb_g%
theorem Tz:aC ["keepsake","lines"] Q16 (aq Jw):=tb_g%
theorem Vp:aC Q17 Q17 (aq vR):=tb_g%
theorem EY:aC ["_law_one","_law_lists"] Q17 (aq Jx):=tb_g%
theorem TF:aC ["_law_keepsake","_law_window","_law_seen","_law_told"] ["_law_keepsake"] (aq Jy):=tb_g%
theorem aqO:aC ["holds","line"] ["holds","line"] (aq afy):=tb_g%
theorem aaZ:aC Q12 Q12 (aq zL):=tb_g%
theorem Vq:aC Q13 Q13 (aq vU):=tb_g%
theorem Np:aC Q24 Q24 (aq qm):=tb_g%
theorem Hj:aC ["words","line","numbers"] Q13 (aq zM):=tb_g%
theorem Lw:aC ["lines","line","name","words"] ["lines","line","name"] (aq DX):=tb_g%
theorem Hl:aC ["word","line","number"] Q12 (aq zN):=tb_g%
theorem Xg:aC ["words","groups","word"] ["words"] (aq QD):=tb_g%
theorem uP:aC ["things","rising"] ["things"] (aq nJ):=tb_g%
theorem kO:aC ["frequent","things","counts"] ["frequent","things"] (aq lK):=tb_g%
theorem qR:aC ["rungs","weight","things"] ["rungs"] (aq jU):=tb_g%
theorem Vr:aC Q18 Q18 (aq vV):=tb_g%
theorem TJ:aC ["rungs"] ["rungs"] (aq tG):=tb_g%
theorem yD:aC ["window","ahead","first","last","weight"] Q14 (aq qp):=tb_g%
theorem Cu:aC ["window","newer","neighbour","first","last","weight"] Q14 (aq vX):=tb_g%
theorem Nq:aC Q14 Q14 (aq qt):=tb_g%
theorem rH:aC ["distinct","fewest"] ["distinct"] (aq lM):=tb_g%
theorem Ho:aC ["words","line","numbers"] Q13 (aq zO):=tb_g%
theorem uQ:aC ["frequent","words","line","numbers","things"] ["frequent","words","line"] (aq nM):=tb_g%
theorem Cv:aC ["rungs","words","line","groups","numbers"] ["rungs","words","line"] (aq vY):=tb_g%
theorem Av:aC ["window","words","line","numbers"] ["window","words","line"] (aq tH):=tb_g%
theorem uR:aC ["distinct","words","line","numbers"] ["distinct","words","line"] (aq nO):=tb_g%
theorem aa0:aC Q25 Q25 (aq zP):=tb_g%
theorem uT:aC ["text","lines","keepsake"] ["text"] (aq nQ):=tb_g%
theorem Lx:aC ["_law_script","_law_pieces_here","_law_cell"] ["_law_script"] (aq DY):=tb_g%
theorem agX:aC Q26 Q26 (aq Jz):=tb_g%
theorem Hq:aC ["_law_script","_law_shape","_law_bits","_law_cell","_law_left","_law_rows","_law_keepsake","_law_row","_law_at","_law_one","_law_other"] Q27 (aq zQ):=tb_g%
theorem aoU:aC ["_law_script","_law_shape","_law_plain","_law_noted_here"] ["_law_script"] (aq amN):=tb_g%
seal PSs PS PE PA PT PW PG PGs PI PO PTs OpR IxR
set_option hygiene false in
local macro_rules | `(tactic| k_dat ([$xs,*], [$ys,*], [$zs,*]) "p") => `(tactic| (
 repeat' first $[| ((first | apply cpE | apply cpS | apply cpN);refine' $zs)]* $[| apply $xs]* | apply bV | apply fO | apply pv | apply JD | apply pf | apply apT | apply amR | apply apS | apply ahv | apply psS | apply auk | apply apU | apply ps_if | apply auv | apply Ga | apply Oj | apply ane | apply QS | apply aue | apply auw | apply pgN | apply zT | apply ZR | apply afF | apply pe_bl | apply afE | apply aun | apply pw_or | apply pw_or1 | apply pw_and | apply pw_and1 | apply pwB | apply auh | apply auf | apply auj | apply aui | apply pe_un | apply ap4 | apply ap5 | apply afQ | apply iH | apply auo | apply aup | apply apV | apply auq | apply arH | apply op_le | apply arI | apply am3 | apply V8 | apply op_ne | apply ap8 | apply aus | apply ixG | apply am8 | exact gi 0 | exact gi 1 | exact gi 2 | exact gi 3 | exact gi 4 | exact gi 5 | exact gi 6 | exact gi 7 | exact gi 8 | exact gi 9 | exact gi 10 | exact rfl | exact Ea _ | exact fun _=>rfl | exact fun _ _=>rfl | exact .inl rfl | exact .inr rfl | exact .inr (.inl rfl) | exact .inr (.inr rfl) | exact hr.mono tb_g% | exact hu_of hr | exact hr.units | decide +kernel | with_unfolding_all rfl $[| refine' $ys]* | refine' am0 Zz rfl ?_ ?_ ?_ | refine' amX Zz ?_ ?_ | refine' aum ?_ ?_ (setG tb_g%) | refine' dj aiU (by rfl) T.n_len PySem.boot_len ?_ | refine' yd Qp PySem.F.slot_list_append PySem.F.type_list_append Wh ?_ ?_ | apply amS))
local macro_rules | `(tactic| k_dat $a "h") => `(tactic| (
 first | show#[$a] | (rotate_left;k_dat $a "h")))
inductive Ex2 {a0 a1:Type} (P:a0->a1->Prop):Prop
 |k x0 x1:P x0 x1->Ex2 P
inductive Ex3 {a0 a1 a2:Type} (P:a0->a1->a2->Prop):Prop
 |k x0 x1 x2:P x0 x1 x2->Ex3 P
inductive Ex4 {a0 a1 a2 a3:Type} (P:a0->a1->a2->a3->Prop):Prop
 |k x0 x1 x2 x3:P x0 x1 x2 x3->Ex4 P
inductive Ex5 {a0 a1 a2 a3 a4:Type} (P:a0->a1->a2->a3->a4->Prop):Prop
 |k x0 x1 x2 x3 x4:P x0 x1 x2 x3 x4->Ex5 P
inductive Ex6 {a0 a1 a2 a3 a4 a5:Type} (P:a0->a1->a2->a3->a4->a5->Prop):Prop
 |k x0 x1 x2 x3 x4 x5:P x0 x1 x2 x3 x4 x5->Ex6 P
inductive Ex7 {a0 a1 a2 a3 a4 a5 a6:Type} (P:a0->a1->a2->a3->a4->a5->a6->Prop):Prop
 |k x0 x1 x2 x3 x4 x5 x6:P x0 x1 x2 x3 x4 x5 x6->Ex7 P
inductive Ex8 {a0 a1 a2 a3 a4 a5 a6 a7:Type} (P:a0->a1->a2->a3->a4->a5->a6->a7->Prop):Prop
 |k x0 x1 x2 x3 x4 x5 x6 x7:P x0 x1 x2 x3 x4 x5 x6 x7->Ex8 P
inductive mV (A0 A1 A2:Prop):Prop
 |k:A0->A1->A2->mV A0 A1 A2
inductive uU (A0 A1 A2 A3:Prop):Prop
 |k:A0->A1->A2->A3->uU A0 A1 A2 A3
inductive uV (A0 A1 A2 A3 A4:Prop):Prop
 |k:A0->A1->A2->A3->A4->uV A0 A1 A2 A3 A4
inductive KC (A0 A1 A2 A3 A4 A5:Prop):Prop
 |k:A0->A1->A2->A3->A4->A5->KC A0 A1 A2 A3 A4 A5
inductive Nr (A0 A1 A2 A3 A4 A5 A6:Prop):Prop
 |k:A0->A1->A2->A3->A4->A5->A6->Nr A0 A1 A2 A3 A4 A5 A6
inductive qT (A0 A1 A2 A3 A4 A5 A6 A7:Prop):Prop
 |k:A0->A1->A2->A3->A4->A5->A6->A7->qT A0 A1 A2 A3 A4 A5 A6 A7
set_option genSizeOf false
set_option genInjectivity false
theorem lX{Y:Cx}(h:let X:=Y.nox;∃t,PSs X b t/\t D σ H):∃t,PSs Y.nox b t/\t D σ H:=h
theorem lq(h:let u':=u;let D':=D;let σ':=σ;FT t u' D' σ' H):FT t u D σ H:=h
theorem lqn(h:let u':=u;let D':=D;let σ':=σ;FT t u' D' σ' H):Ends.nx #[FT t u D,r,b,c] σ H:=h
theorem lqg{σ:St}(h:let u':=u;let D':=D;let σ':=σ.set i (some x);FT t u' D' σ' H):mQ i x σ H (Ends.nx #[FT t u D,r,b,c]):=h
theorem lrr(h:let u':=u;let D':=D;FT t u' D' σ H):FT t u D σ H:=h
theorem lrn(h:let u':=u;let D':=D;FT t u' D' σ H):Ends.nx #[FT t u D,r,b,c] σ H:=h
theorem lrg{σ:St}(h:let u':=u;let D':=D;FT t u' D' (σ.set i (some x)) H):mQ i x σ H (Ends.nx #[FT t u D,r,b,c]):=h
theorem ld{t:TS}{D:Ends}{σ:St}{H:Hp}(h:let D':=D;let σ':=σ;t D' σ' H):t D σ H:=h
local macro_rules|`(tactic|k_dat $l "c")=>`(tactic|(refine $l ?_;intros))
structure Fd(K:aH)(C:Addr)(f:Str)(fs:List (Str × V))(v:V):Prop where
 c:Cls K C
 n:cB K C f
 l:fs.lookup f=some v
theorem rdG{K:aH}(h:H a=some (.ins C dx fs))(d:Fd K C f fs v)(q:Q v H):rFld K f (.ref a) H Q:=rdF h d.c d.n d.l q
theorem nwA{P:Hp->Prop}(n:G c=none)(h:∀G',Same G G'->G' c=some o->P G'):∀G',upd G c o=G'->P G':=fun _ e=>e ▸ h _ (Same.new n) aj
theorem nbA{P:Hp->Prop}(h:∀G',But c G G'->G' c=some o->P G'):∀G',upd G c o=G'->P G':=fun _ e=>e ▸ h _ But.upd aj
theorem nsA{P:Hp->Prop}(s:Same H G)(n:H c=none)(h:∀G',Same H G'->G' c=some o->P G'):∀G',upd G c o=G'->P G':=fun _ e=>e ▸ h _ (fun b o e=>by rw[ao (ak e n)];exact s b o e) aj
set_option hygiene false in
local macro_rules|`(tactic|k_dat ($a,$b,$c) "f")=>`(tactic|(refine ⟨$a,$b $c (fun vs H Q E h=>?_) (fun cdv B outer s H vs Q E hr h=>lX ?_)⟩;(repeat (cases h;rename_i h));subst_vars;rfl;intro X))
local macro_rules|`(tactic|k_dat ($l,$g:ident,$s:ident,$f:ident) "n")=>`(tactic|(generalize e:upd _ _ _=$g:ident;revert $g:ident e;refine $l ?_;intro $g:ident $s:ident $f:ident))
def aoV(K:aH):Sp:=fun vs H Q _=>Ex2 fun(a:Addr) (ns:List Int)=>uU (vs=[.ref a]) (SqL K H a (ns.map V.int)) (ns.length<=63) (∀H',Q (.bl true) H')
theorem sq(h:∀R:St->Hp->Prop,(∀σ H,u D σ H->R σ H)->t { D with nx:=R } σ H):FT t u D σ H:=h (u D) fun _ _ z=>z
local macro_rules | `(tactic| walk_at "rec") => `(tactic| repeat first | rw [aog] | rw [aqC] | (rw [aqD ?h]; (case h => decide +kernel)))
def rg(au aX bQ aY aZ bh bR bA:V):List (Str × V):=[("room",au),("total",aX),("over",bQ),("under",aY),("turns",aZ),("least",bh),("most",bR),("rungs",bA)]
theorem xq{K:aH}{A:Ad}(T:Tx K mg A):Fd K A.C'0 ("room" : Str) (rg au aX bQ aY aZ bh bR bA) au:=#[T.fU,T.na'6,rfl]
theorem fH{K:aH}{A:Ad}(T:Tx K mg A):Fd K A.C'0 ("total" : Str) (rg au aX bQ aY aZ bh bR bA) aX:=#[T.fU,T.agP,rfl]
theorem xr{K:aH}{A:Ad}(T:Tx K mg A):Fd K A.C'0 ("over" : Str) (rg au aX bQ aY aZ bh bR bA) bQ:=#[T.fU,T.agQ,rfl]
theorem qU{K:aH}{A:Ad}(T:Tx K mg A):Fd K A.C'0 ("under" : Str) (rg au aX bQ aY aZ bh bR bA) aY:=#[T.fU,T.agR,rfl]
theorem jq{K:aH}{A:Ad}(T:Tx K mg A):Fd K A.C'0 ("turns" : Str) (rg au aX bQ aY aZ bh bR bA) aZ:=#[T.fU,T.Lj,rfl]
theorem mW{K:aH}{A:Ad}(T:Tx K mg A):Fd K A.C'0 ("least" : Str) (rg au aX bQ aY aZ bh bR bA) bh:=#[T.fU,T.SJ,rfl]
theorem o9{K:aH}{A:Ad}(T:Tx K mg A):Fd K A.C'0 ("most" : Str) (rg au aX bQ aY aZ bh bR bA) bR:=#[T.fU,T.SM,rfl]
theorem gb{K:aH}{A:Ad}(T:Tx K mg A):Fd K A.C'0 ("rungs" : Str) (rg au aX bQ aY aZ bh bR bA) bA:=#[T.fU,T.W8,rfl]
theorem au9(au aX bQ aY aZ bh bR bA:V):bZ "rungs" bA (bZ "most" bR (bZ "least" bh (bZ "turns" aZ (bZ "under" aY (bZ "over" bQ (bZ "total" aX (bZ "room" au [])))))))=rg au aX bQ aY aZ bh bR bA:=by
 unfold rg
 walk_at "rec"
theorem xu(au aX bQ aY aZ bh bR bA y:V):bZ "total" y (rg au aX bQ aY aZ bh bR bA)=rg au y bQ aY aZ bh bR bA:=by
 unfold rg
 walk_at "rec"
theorem Aw(au aX bQ aY aZ bh bR bA y:V):bZ "over" y (rg au aX bQ aY aZ bh bR bA)=rg au aX y aY aZ bh bR bA:=by
 unfold rg
 walk_at "rec"
theorem xG(au aX bQ aY aZ bh bR bA y:V):bZ "under" y (rg au aX bQ aY aZ bh bR bA)=rg au aX bQ y aZ bh bR bA:=by
 unfold rg
 walk_at "rec"
theorem pA(au aX bQ aY aZ bh bR bA y:V):bZ "turns" y (rg au aX bQ aY aZ bh bR bA)=rg au aX bQ aY y bh bR bA:=by
 unfold rg
 walk_at "rec"
theorem xH(au aX bQ aY aZ bh bR bA y:V):bZ "least" y (rg au aX bQ aY aZ bh bR bA)=rg au aX bQ aY aZ y bR bA:=by
 unfold rg
 walk_at "rec"
theorem Ax(au aX bQ aY aZ bh bR bA y:V):bZ "most" y (rg au aX bQ aY aZ bh bR bA)=rg au aX bQ aY aZ bh y bA:=by
 unfold rg
 walk_at "rec"
theorem Hr(au aX bQ aY aZ bh bR bA y:V):bZ "rungs" y (rg au aX bQ aY aZ bh bR bA)=rg au aX bQ aY aZ bh bR y:=by
 unfold rg
 walk_at "rec"
theorem rgN(h:m∉[("room" : Str),("total" : Str),("over" : Str),("under" : Str),("turns" : Str),("least" : Str),("most" : Str),("rungs" : Str)]):(rg au aX bQ aY aZ bh bR bA).lookup m=none:=by
 simp only[aP,jc,or_false,not_or]at h;obtain⟨Fb,aqP,ava,aqQ,aqR,aqS,avb,aqT⟩:=h;unfold rg;rw[cG Fb,cG aqP,cG ava,cG aqQ,cG aqR,cG aqS,cG avb,cG aqT];rfl
def oV:Option Int->V
 |none=>.non
 |some i=>.int i
structure LL(H:Hp)(a:Addr)(bs:List Addr)(ls:RG.Ls):Prop where
 o:H a=some (.lst (bs.map V.ref))
 n:bs.length=ls.length
 e:∀(i:Nat)(b:Addr)(l:List Int),bs[i]? = some b->ls[i]? = some l->H b=some (.lst (l.map V.int))
 x:a∉bs
section
variable{H H':Hp}{bs:List Addr}{m:List Int}{i:Nat}
theorem LL.same(h:LL H a bs ls)(s:Same H H'):LL H' a bs ls:=#[s _ _ h.o,h.n,fun i b l e1 e2=>s _ _ (h.e i b l e1 e2),h.x]
theorem LL.at(h:LL H a bs ls)(hi:i<ls.length):∃b l,bs[i]? = some b/\ls[i]? = some l/\H b=some (.lst (l.map V.int)):=by
 have hb:i<bs.length:=by rwa[h.n]
 show#[bs[i],ls[i],eE hb,eE hi,h.e i _ _ (eE hb) (eE hi)]
theorem LL.ix{b:Addr}(h:bs[i]? = some b):atI (bs.map V.ref) (i:Int)=some (.ref b):=fu (by rw[cP,h];rfl)
theorem xJ(h:j<n):ixN n (j:Int)=some j:=by
 unfold ixN;rw[mI tb_g%,mI tb_g%];simp
theorem LL.set(h:LL H a bs ls)(hc:H c=some (.lst (m.map V.int)))(nc:c≠a):LL (upd H a (.lst ((bs.map V.ref).set i (.ref c)))) a (bs.set i c) (ls.set i m):=by
 show#[by rw[aj,List.map_set],by rw[lA,lA,h.n],fun j b l e1 e2=>?_,fun z=>?_]
 ·by_cases ij:i=j
  ·subst ij;rw[List.getElem?_set]at e1 e2;rw[mI rfl]at e1 e2;split at e1
   ·split at e2
    ·obtain rfl:=bC e1;obtain rfl:=bC e2;rwa[ao nc]
    ·cases e2
   ·cases e1
  ·rw[Ie ij]at e1 e2;have nb:b≠a:=fun z=>h.x (by rw[<-z];exact mv e1);rw[ao nb];exact h.e j b l e1 e2
 ·rcases BW z with y|y
  ·exact h.x y
  ·exact nc y.symm
theorem LL.app(h:LL H a bs ls)(hc:H c=some (.lst (m.map V.int)))(nc:c≠a):LL (upd H a (.lst (bs.map V.ref++[.ref c]))) a (bs++[c]) (ls++[m]):=by
 show#[by rw[aj,aR];rfl,by rw[cu,cu,h.n];rfl,fun j b l e1 e2=>?_,fun z=>?_]
 ·rcases iy j bs.length with lt|ge
  ·rw[OJ lt]at e1;rw[OJ (by rw[<-h.n];exact lt)]at e2;have nb:b≠a:=fun z=>h.x (by rw[<-z];exact mv e1);rw[ao nb];exact h.e j b l e1 e2
  ·rw[Ft ge]at e1;rw[Ft (by rwa[<-h.n]),<-h.n]at e2;obtain e:j-bs.length=0:=by
    have:=(dI.mp e1).1;have:j-bs.length<1:=this;lia
   rw[e]at e1 e2;obtain rfl:=bC e1;obtain rfl:=bC e2;rwa[ao nc]
 ·rcases bH.mp z with y|y
  ·exact h.x y
  ·exact nc (bO.mp y).symm
theorem LL.copy(h:LL H a bs ls)(hg:H g=none):LL (upd H g (.lst (bs.map V.ref))) g bs ls:=by
 have s:Same H (upd H g (.lst (bs.map V.ref))):=Same.new hg;show#[aj,h.n,(h.same s).e,fun z=>?_];obtain⟨i,hi,e⟩:=XC.mp z;obtain⟨b,l,e1,_,e3⟩:=h.at (i:=i) (by rwa[<-h.n]);rw[eE hi,e]at e1;obtain rfl:=bC e1;rw[hg]at e3;cases e3
end
def avc(σ:St)(_:Hp):Nat:=match σ with
 |[_,_,_,_,_,some (.int n)]=>n.toNat
 |_=>0
def aqU:Sp:=fun vs H Q _=>Ex5 fun a bs ls t w=>Nr (vs=[.ref a,.int t,.int w]) (LL H a bs ls) (0<=w) (w<2 ^ 64) (ls.length<=800) ((∀l∈ls,l.length<=62)) (∀g bs' H',H g=none->LL H' g bs' (RG.fQ t ls w.toNat)->Same H H'->(∀c∈bs',c∈bs\/H c=none)->Q (.ref g) H')
theorem Vs(T:Tx K mg A):FnK P w base T.wL CX0 1 aqU:=by
 k_dat (T.wL,T.wL.ok,Cm) "f"
 ·obtain⟨a,bs0,ls,t,w,rfl,hL,w0,w64,hn,h9,q⟩:=h;have w64':w.toNat<2 ^ 64:=by lia
  show#[_,by (k_dat ([hdA],[Cm.nd,gO (qw rfl) (by rfl) T.Ey Qk ?_,dj (iV rfl) (by rfl) T.kE La ?_],[]) "p"; k_dat zV "h"; k_dat iH "h"),?_];show#[_,rfl,.inl #[a,_,rfl,.inl (.inl (.inl hL.o)),fun g hg=>?_]];have L0:=hL.copy hg;have s0:Same H (upd H g (.lst (bs0.map V.ref))):=Same.new hg;generalize upd H g (.lst (bs0.map V.ref))=H1 at L0 s0 ⊢
  k_dat lqg "c"
  show#[_,rfl,?_]
  k_dat lqg "c"
  refine uE (fun σ G=>Ex4 fun(bs:List Addr) (ms:RG.Ls) (p k:Nat)=>qT (σ=[some (.ref a),some (.int t),some (.int w),some (.ref g),some (.int (p:Int)),some (.int (k:Int))]) (LL G g bs ms) (Same H G) (p<=ms.length) (ms.length<=800) (k*2 ^ p<=w.toNat) (ms.take p++RG.fQ t (ms.drop p) k=RG.fQ t ls w.toNat) ((∀l∈ms.drop p,l.length<=62)/\∀c∈bs,c∈bs0\/H c=none)) avc
   #[bs0,ls,0,w.toNat,by rw[Ji w0];rfl,L0,s0,cg _,hn,by rw[YS];lia,rfl,h9,fun c hc=>.inl hc] ?_ ?_
  ·rintro σ G ⟨bs,ms,p,k,rfl,L,sG,hp,h8,kp,eq,b9,fr⟩;show#[_,rfl,_,_,rfl,rfl,_,rfl,dh (fun hc=>?_) (fun hc=>?_)]
   ·k_dat lq "c"
    have k0:0<k:=by have:=mS hc;lia
    have p64:p<=63:=by
     rcases iy p (63+1)with z|z
     ·lia
     ·have h1:=PN (show 0<2 by decide) z;have h2:=Fw (2 ^ p) k0;lia
    show#[_,rfl,_,rfl,cM (.inl (.inl L.o)) #[rfl,_,rfl,dh (fun he=>?_) (fun he=>?_)]]
    ·have he:p=ms.length:=by
      have:=V.int.inj (mS he);rw[aD,L.n]at this;lia
     show#[_,rfl,.inl #[rfl,_,.inl (.inl L.o)],tb_g%,fun c hc=>?_]
     k_dat (nwA hc,G1,s1,f1) "n"
     have f1:G1 c=some (.lst (([]:List Int).map V.int)):=f1;have nc:c≠g:=aL (ak L.o hc);show#[g,_,_,rfl,rfl,s1 _ _ L.o,aJ (by rw[aD,L.n];lia),?_];have L2:=(L.same s1).app f1 nc;have s2:Same H (upd G1 g (.lst (bs.map V.ref++[.ref c]))):=fun b o e=>by rw[ao (ak e hg)];exact s1 _ _ (sG b o e)
     generalize upd G1 g (.lst (bs.map V.ref++[.ref c]))=GX at L2 s2 ⊢
     k_dat lqn "c"
     have lp:p<(ms++[[]]).length:=by rw[cu];show p<ms.length+1;lia
     have lp8:(ms++[[]]).length<=800:=by rw[cu];show ms.length+1<=800;lia
     have b92:∀l∈(ms++[[]]).drop p,l.length<=62:=fun l hl=>by
      rw[he,akt]at hl;rw[bO.mp hl];exact cg _
     have fr2:∀x∈bs++[c],x∈bs0\/H x=none:=fun x hx=>by
      rcases bH.mp hx with z|z
      ·exact fr x z
      ·rw[bO.mp z];exact .inr (sG.free hc)
     have eq2:=(RG.agp (t:=t) he (show k≠0 by lia)).trans eq;obtain⟨b,l,eb,el,hb⟩:=L2.at lp;have hl9:l.length<=62:=b92 l (by rw[RG.fV el];exact bY);have e9:∀m,∀l∈((ms++[[]]).set p m).drop (p+1),l.length<=62:=fun m l hl=>b92 l (by rw[RG.set_drop]at hl;rw[RG.fV el];exact cF _ hl);have st:=RG.Rh (t:=t) el (show k≠0 by lia);have kh:k / 2*2 ^ (p+1)<=w.toNat:=by
      rw[jy,Dr (2 ^ p) 2,<-vD];exact cW (Fw _ tb_g%) kp
     have ek:((k:Int) / 2)=((k / 2:Nat):Int):=by lia
     have ep:((p:Int)+1)=((p+1:Nat):Int):=by lia
     k_dat (2,hb2) "o"
     ·have o2:k % 2=1:=by have:=V.int.inj (mS hb2);lia
      rw[mI o2]at st;show#[_,rfl,_,rfl,dF (.inl (.inl L2.o)) (v:=.ref b) (LL.ix eb) #[_,rfl,tb_g%,fun c1 hc1=>?_]]
      k_dat (nwA hc1,J1,y1,z1) "n"
      show#[b,c1,_,_,rfl,rfl,y1 _ _ hb,z1,gK (aJ (by rw[aD];show l.length+1<=1000;lia)),fun c2 hc2=>?_];rw[show l.map V.int++[V.int t]=(l++[t]).map V.int by rw[aR];rfl]
      k_dat (nwA hc2,J2,y2,z2) "n"
      refine .inr #[c2,l++[t],rfl,.inl (.inl z2),by rw[cu];show l.length+1<64;lia,fun c3 ns hc3 pm so=>?_];obtain rfl:=RG.wF pm so
      k_dat (nwA hc3,J3,y3,z3) "n"
      have y03:=y1.trans (y2.trans y3);have M3:=L2.same y03;have nc3:c3≠g:=aL (ak ((y1.trans y2) _ _ L2.o) hc3);show#[_,rfl,_,rfl,.inl #[g,_,_,p,rfl,rfl,M3.o,xJ (by rwa[aD,L2.n]),?_]];have M4:=M3.set (i:=p) z3 nc3;have y4:Same H (upd J3 g (.lst (((bs++[c]).map V.ref).set p (.ref c3)))):=fun b o e=>by rw[ao (ak e hg)];exact y03 _ _ (s2 b o e)
      generalize upd J3 g (.lst (((bs++[c]).map V.ref).set p (.ref c3)))=J4 at M4 y4 ⊢;show#[_,rfl,_,_,rfl,rfl,_,rfl,_,_,rfl,rfl,#[tb_g%,tb_g%],?_,?_]
      ·show#[_,_,p+1,k / 2,by rw [<- ek,<- ep];rfl,M4,y4,by rw [lA];lia,by rw [lA];lia,kh,st.trans eq2,e9 _,fun c hc=>by
        rcases BW hc with z|z
        ·exact fr2 c z
        ·rw [z];exact .inr ((s2.trans (y1.trans y2)).free hc3)]
      ·show((k:Int) / 2).toNat<(k:Int).toNat;lia
     ·have o2:¬ k % 2=1:=fun z=>hb2 (mP (mN V.int tb_g%));rw[mB o2,RG.Gs el]at st;have e9':=e9 l;rw[RG.Gs el]at e9';show#[_,rfl,_,_,rfl,rfl,_,rfl,_,_,rfl,rfl,#[tb_g%,tb_g%],?_,?_]
      ·show#[(bs++[c]),(ms++[[]]),p+1,k / 2,by rw[<-ek,<-ep];rfl,L2,s2,by lia,by lia,kh,st.trans eq2,e9',fr2]
      ·show((k:Int) / 2).toNat<(k:Int).toNat;lia
    ·have he:¬ p=ms.length:=fun z=>he (mP (mN V.int (by rw[aD,L.n];lia)));have lp:p<ms.length:=by lia
     obtain⟨b,l,eb,el,hb⟩:=L.at lp;have hl9:l.length<=62:=b9 l (by rw[RG.fV el];exact bY);have e9:∀m,∀l∈(ms.set p m).drop (p+1),l.length<=62:=fun m l hl=>b9 l (by rw[RG.set_drop]at hl;rw[RG.fV el];exact cF _ hl);have st:=RG.Rh (t:=t) el (show k≠0 by lia);have kh:k / 2*2 ^ (p+1)<=w.toNat:=by
      rw[jy,Dr (2 ^ p) 2,<-vD];exact cW (Fw _ tb_g%) kp
     have ek:((k:Int) / 2)=((k / 2:Nat):Int):=by lia
     have ep:((p:Int)+1)=((p+1:Nat):Int):=by lia
     k_dat (2,hb2) "o"
     ·have o2:k % 2=1:=by have:=V.int.inj (mS hb2);lia
      rw[mI o2]at st;show#[_,rfl,_,rfl,dF (.inl (.inl L.o)) (v:=.ref b) (LL.ix eb) #[_,rfl,tb_g%,fun c1 hc1=>?_]]
      k_dat (nwA hc1,J1,y1,z1) "n"
      show#[b,c1,_,_,rfl,rfl,y1 _ _ hb,z1,gK (aJ (by rw[aD];show l.length+1<=1000;lia)),fun c2 hc2=>?_];rw[show l.map V.int++[V.int t]=(l++[t]).map V.int by rw[aR];rfl]
      k_dat (nwA hc2,J2,y2,z2) "n"
      refine .inr #[c2,l++[t],rfl,.inl (.inl z2),by rw[cu];show l.length+1<64;lia,fun c3 ns hc3 pm so=>?_];obtain rfl:=RG.wF pm so
      k_dat (nwA hc3,J3,y3,z3) "n"
      have y03:=y1.trans (y2.trans y3);have M3:=L.same y03;have nc3:c3≠g:=aL (ak ((y1.trans y2) _ _ L.o) hc3);show#[_,rfl,_,rfl,.inl #[g,_,_,p,rfl,rfl,M3.o,xJ (by rwa[aD,L.n]),?_]];have M4:=M3.set (i:=p) z3 nc3;have y4:Same H (upd J3 g (.lst ((bs.map V.ref).set p (.ref c3)))):=fun b o e=>by rw[ao (ak e hg)];exact y03 _ _ (sG b o e)
      generalize upd J3 g (.lst ((bs.map V.ref).set p (.ref c3)))=J4 at M4 y4 ⊢;show#[_,rfl,_,_,rfl,rfl,_,rfl,_,_,rfl,rfl,#[tb_g%,tb_g%],?_,?_]
      ·show#[_,_,p+1,k / 2,by rw [<- ek,<- ep];rfl,M4,y4,by rw [lA];lia,by rw [lA];lia,kh,st.trans eq,e9 _,fun c hc=>by
        rcases BW hc with z|z
        ·exact fr c z
        ·rw [z];exact .inr ((sG.trans (y1.trans y2)).free hc3)]
      ·show((k:Int) / 2).toNat<(k:Int).toNat;lia
     ·have o2:¬ k % 2=1:=fun z=>hb2 (mP (mN V.int tb_g%));rw[mB o2,RG.Gs el]at st;have e9':=e9 l;rw[RG.Gs el]at e9';show#[_,rfl,_,_,rfl,rfl,_,rfl,_,_,rfl,rfl,#[tb_g%,tb_g%],?_,?_]
      ·show#[bs,ms,p+1,k / 2,by rw[<-ek,<-ep];rfl,L,sG,by lia,by lia,kh,st.trans eq,e9',fr]
      ·show((k:Int) / 2).toNat<(k:Int).toNat;lia
   ·have k0:k=0:=by have:¬ (0:Int)<k:=fun z=>hc (mP z);lia
    subst k0;rw[RG.gG,Xw]at eq;rw[eq]at L;show#[_,rfl,q g bs G hg L sG fr]
  ·exact fun σ H Q Q' hq h=>lN (mD (bW 5) (Ej _)) σ H Q Q' hq h
def avd:Sp:=fun vs H Q _=>Ex2 fun b l=>mV (vs=[.ref b]) (H b=some (.lst (l.map V.int))) (∀c H',H c=none->H' c=some (.lst ((RG.lft l).map V.int))->Same H H'->Q (.ref c) H')
theorem TQ(T:Tx K mg A):FnK P w base T.tQ CX0 1 avd:=by
 k_dat (T.tQ,T.tQ.ok,Ti) "f"
 ·obtain⟨b,l,rfl,hb,q⟩:=h;have h2:(l.length:Int)-(l.length:Int) % 2=((l.length-l.length % 2:Nat):Int):=by lia
  walk_at "t"
  show#[_,rfl,_,rfl,cM (.inl (.inl hb)) #[_,rfl,cM (.inl (.inl hb)) #[_,_,rfl,rfl,(by show(0:Int)<2;decide),_,_,rfl,rfl,_,rfl,b,_,rfl,.inl (.inl hb),fun c hc=>?_]]];rw[aD,h2];have e:BL (l.map V.int) (some ((l.length-l.length % 2:Nat):Int)) none=(RG.lft l).map V.int:=by
   rw[RG.acg,O9];unfold BL HT.sIx;simp only[aD];rw[mB tb_g%];rw[uh]
   ·congr 1;simp
   ·rw[O5,aD];simp
  rw[e];exact q c _ hc aj (Same.new hc)
def aqV:Sp:=fun vs H Q _=>Ex3 fun b l tn=>mV (vs=[.ref b,.int tn]) (H b=some (.lst (l.map V.int))) (∀c H',H c=none->H' c=some (.lst ((RG.pick (decide (tn % 2=1)) l).map V.int))->Same H H'->Q (.ref c) H')
theorem aoW(T:Tx K mg A):FnK P w base T.aaT CX0 1 aqV:=by
 k_dat (T.aaT,T.aaT.ok,aoS) "f"
 ·obtain⟨b,l,tn,rfl,hb,q⟩:=h;show#[_,by k_dat ([JR],[],[]) "p",?_];show#[_,rfl,_,rfl,_,_,rfl,rfl,(by show(0:Int)<2;decide),_,rfl,?_];show#[_,rfl,cM (.inl (.inl hb)) #[_,rfl,cM (.inl (.inl hb)) #[_,_,rfl,rfl,(by show(0:Int)<2;decide),_,_,rfl,rfl,_,rfl,?_]]];show#[_,rfl,_,rfl,tb_g%,b,_,rfl,.inl (.inl hb),fun c hc=>?_];rw[aD,ajd tb_g%];exact q c _ hc aj (Same.new hc)
def ave(A:Ad):Sp:=fun vs H Q _=>Ex8 fun p dx r T ov un tn st=>Ex3 fun mi ma rf=>mV (vs=[.ref p,.int st]) (H p=some (.ins A.C'0 dx (rg (.int r) (.int T) (.int ov) (.int un) (.int tn) mi ma rf))) (Q .non (upd H p (.ins A.C'0 dx (rg (.int r) (.int T) (.int (if tn % 2=0 then ov+st else ov)) (.int (if tn % 2=0 then un else un+st)) (.int (tn+1)) mi ma rf))))
theorem Vt(T:Tx K mg A):FnM P w mg base T.wM CX0 1 (ave A):=by
 k_dat (T.wM,T.wM.ok,Vl) "f"
 ·obtain⟨p,dx,r,T',ov,un,tn,st,mi,ma,rf,rfl,hp,q⟩:=h
  walk_at "t"
  k_dat lq "c"
  show#[_,rfl,rdG hp (jq T) #[_,_,rfl,rfl,(by show(0:Int)<2;decide),rfl,_,rfl,dh (fun h=>?_) (fun h=>?_)]]
  ·have h0:tn % 2=0:=V.int.inj (mS h);rw[mI h0,mI h0]at q
   k_dat (hp,xr,T.fU,T.agQ) "q"
   rw[Aw];show#[_,rfl,rdG aj (jq T) #[_,_,rfl,rfl,_,rfl,p,_,dx,_,rfl,aj,T.fU,T.Lj,tb_g%,?_]];rwa[pA,cA]
  ·have h0:¬ tn % 2=0:=fun z=>h (mP (mN V.int z));rw[mB h0,mB h0]at q
   k_dat (hp,qU,T.fU,T.agR) "q"
   rw[xG];show#[_,rfl,rdG aj (jq T) #[_,_,rfl,rfl,_,rfl,p,_,dx,_,rfl,aj,T.fU,T.Lj,tb_g%,?_]];rwa[pA,cA]
theorem LL.but{H H':Hp}{a p C e:Addr}{bs:List Addr}{ls:RG.Ls}{fs:List (Str × V)}(h:LL H a bs ls)(b:But p H H')(hp:H p=some (.ins C e fs)):LL H' a bs ls:=
 #[b _ _ h.o (fP h.o hp (by intro z;cases z)),h.n,fun i c l e1 e2=>b _ _ (h.e i c l e1 e2) (fP (h.e i c l e1 e2) hp (by intro z;cases z)),h.x]
def placeOf(σ:St)(_:Hp):Nat:=match σ with
 |[_,_,_,some (.int n),_,_]=>(1000-n).toNat
 |_=>0
def aoX(A:Ad):Sp:=fun vs H Q _=>Ex8 fun p dx a bs ls r tt ov=>Ex5 fun un tn mi ma rf=>qT (vs=[.ref p,.ref a]) (H p=some (.ins A.C'0 dx (rg (.int r) (.int tt) (.int ov) (.int un) (.int tn) (oV mi) (oV ma) rf))) (LL H a bs ls) (2<=r) (r<=64) (((∀l∈ls,l.length<=31)\/∀l∈ls,(l.length:Int)<=r)) (ls.length<=400) (RG.val ls<2 ^ 500/\∀g bs' out tn' ov' un' H',RG.Stl r 0 tn ov un ls out tn' ov' un'->H g=none->LL H' g bs' out->H' p=some (.ins A.C'0 dx (rg (.int r) (.int tt) (.int ov') (.int un') (.int tn') (oV mi) (oV ma) (.ref g)))->But p H H'->out.length<=501->(∀c∈bs',c∈bs\/H c=none)->Q .non H')
theorem yE(T:Tx K mg A):FnM P w mg base T.qy CX0 2 (aoX A):=by
 k_dat (T.qy,T.qy.ok,yt) "f"
 ·obtain⟨p,dx,a,bs0,ls,r,tt,ov,un,tn,mi,ma,rf,rfl,hp,hL,r2,r64,h2,h4,h5,q⟩:=h;show#[_,by (k_dat ([hdA],[yt.nd,gO (qw rfl) (by rfl) T.Ey Qk ?_,aB (TQ T) ?_,aB (aoW T) ?_,dj (iV rfl) (by rfl) T.kE La ?_,cI ?_ T.fU (Vt T) ?_],[]) "p"; k_dat iH "h"; k_dat zV "h"; k_dat iH "h"; k_dat iH "h"; k_dat iH "h"),?_];show#[_,rfl,.inl #[a,_,rfl,.inl (.inl (.inl hL.o)),fun g hg=>?_]];have L0:=hL.copy hg;have s0:Same H (upd H g (.lst (bs0.map V.ref))):=Same.new hg;generalize upd H g (.lst (bs0.map V.ref))=H1 at L0 s0 ⊢
  k_dat lqg "c"
  refine uE (fun σ G=>Ex7 fun(bs:List Addr) (ms:RG.Ls) (j:Nat) (tn2 ov2 un2:Int) (x:Option V)=>Nr (σ=[some (.ref p),some (.ref a),some (.ref g),some (.int (j:Int)),some (.int (2 ^ j)),x]) (LL G g bs ms) (G p=some (.ins A.C'0 dx (rg (.int r) (.int tt) (.int ov2) (.int un2) (.int tn2) (oV mi) (oV ma) rf))) (But p H G) (RG.Run r tn ov un ls j tn2 ov2 un2 ms) (ms.length<=501) (∀c∈bs,c∈bs0\/H c=none)) placeOf
   #[bs0,ls,0,tn,ov,un,none,rfl,L0,s0 _ _ hp,s0.but p,RG.Run.start,by lia,fun c hc=>.inl hc] ?_ ?_
  ·rintro σ G ⟨bs,ms,j,tn2,ov2,un2,x,rfl,L,gp,bt,R,ln,fr⟩;have jl:=R.le;have ep:((j:Int)+1)=((j+1:Nat):Int):=by lia
   show#[_,rfl,_,rfl,cM (.inl (.inl L.o)) #[_,_,rfl,rfl,_,rfl,dh (fun hc=>?_) (fun hc=>?_)]]
   ·k_dat lq "c"
    have hj:j<ms.length:=by
     have:=mS hc;rw[aD,L.n]at this;lia
    obtain⟨b,l,eb,el,hb⟩:=L.at hj;have nbg:b≠g:=fun z=>L.x (by rw[<-z];exact mv eb);show#[_,rfl,_,rfl,dF (.inl (.inl L.o)) (v:=.ref b) (LL.ix eb) ?_]
    k_dat lqg "c"
    show#[_,rfl,cM (.inl (.inl hb)) #[_,rfl,rdG gp (xq T) #[_,_,rfl,rfl,_,rfl,dh (fun hg2=>?_) (fun hg2=>?_)]]]
    ·k_dat lq "c"
     have hgt:r<(l.length:Int):=by have:=mS hg2;rwa[aD]at this
     have hs:∀l∈ls,l.length<=31:=h2.resolve_right fun z=>by
      have e:=R.b0 z;have:=z l (by rw[<-e];exact mv el);lia
     have ll4:=R.b1 hs l (mv el);have hl2:2<=l.length:=by lia
     have hbig:=R.big el (fun z=>by rw[z]at hl2;exact mM hl2 tb_g%);have j5:j<500:=by
      rcases iy j 500 with z|z
      ·exact z
      ·have:=PN (show 0<2 by decide) z;lia
     show#[_,rfl,_,_,rfl,rfl,_,rfl,cM (.inl (.inl L.o)) #[rfl,_,rfl,dh (fun he=>?_) (fun he=>?_)]]
     ·have he:j+1=ms.length:=by
       have:=V.int.inj (mS he);rw[aD,L.n]at this;lia
      show#[_,rfl,.inl #[rfl,_,.inl (.inl L.o)],tb_g%,fun c hc0=>?_]
      k_dat (nwA hc0,G1,s1,f1) "n"
      have f1:G1 c=some (.lst (([]:List Int).map V.int)):=f1;have nc:c≠g:=aL (ak L.o hc0);show#[g,_,_,rfl,rfl,s1 _ _ L.o,aJ (by rw[aD,L.n];lia),?_]
      k_dat lqn "c"
      have LX:=(L.same s1).app f1 nc;have gx:∀x o,G x=some o->x≠g->(upd G1 g (.lst (bs.map V.ref++[.ref c]))) x=some o:=fun x o e n=>by rw[ao n];exact s1 _ _ e
      have pX:=gx _ _ gp (fP gp L.o (by intro z;cases z));have bX:=gx _ _ hb nbg;have btX:But p H (upd G1 g (.lst (bs.map V.ref++[.ref c]))):=fun b o e n=>gx _ _ (bt b o e n) (ak e hg);generalize upd G1 g (.lst (bs.map V.ref++[.ref c]))=GX at LX pX bX btX ⊢;obtain⟨nx,MR⟩:∃nx:List Int,RG.More j ms (ms++[[]]) nx:=#[[],.inr #[he,rfl,rfl]];have hb:=bX;have SG:Same GX GX:=Same.refl _;have fr2:∀x∈bs++[c],x∈bs0\/H x=none:=fun x hx=>by
       rcases bH.mp hx with z|z
       ·exact fr x z
       ·rw[bO.mp z];exact .inr (d9 bt hc0 fun y=>by rw[y,gp]at hc0;cases hc0)
      have LN:(ms++[[]]).length<=501:=by rw[cu];show ms.length+1<=501;lia
      obtain⟨h1,h2,_,_,_⟩:=MR.at el;obtain⟨hp1,_⟩:=dI.mp h1;obtain⟨hp2,_⟩:=dI.mp h2;have hb':GX b=some (.lst (l.map V.int)):=SG _ _ hb;show#[_,rfl,b,l,rfl,hb',fun c1 G1 nc1 f1 s1=>?_];have L1:=LX.same s1;have n1:c1≠g:=aL (ak LX.o nc1);show#[_,rfl,_,rfl,.inl #[g,_,_,j,rfl,rfl,L1.o,xJ (by rwa[aD,LX.n]),?_]];have L2:=L1.set (i:=j) f1 n1;have pg:p≠g:=fP (s1 _ _ pX) L1.o (by intro z;cases z);have u2:∀x o,G1 x=some o->x≠g->(upd G1 g (.lst (((bs++[c]).map V.ref).set j (.ref c1)))) x=some o:=fun x o e n=>by rwa[ao n]
      have po2:=u2 _ _ (s1 _ _ pX) pg;have hb2:=u2 _ _ (s1 _ _ hb') nbg;have s02:But p H (upd G1 g (.lst (((bs++[c]).map V.ref).set j (.ref c1)))):=fun x o e n=>u2 _ _ (s1 _ _ (btX x o e n)) (ak e hg);generalize upd G1 g (.lst (((bs++[c]).map V.ref).set j (.ref c1)))=G2 at L2 po2 hb2 s02 ⊢;have e2:((ms++[[]]).set j (RG.lft l))[j+1]? = some nx:=by rwa[Ie tb_g%]
      obtain⟨b3,l3,eb3,el3,hb3⟩:=L2.at (i:=j+1) (by rwa[lA]);obtain rfl:l3=nx:=by rw[e2]at el3;exact(bC el3).symm
      have nx2:l3.length<=31:=by
       rcases MR with⟨_,e⟩|⟨_,_,e⟩
       ·exact R.b2 hs l3 (by rw[RG.fV e];exact bY)
       ·rw[e];exact cg _
      show#[_,rfl,_,rfl,_,_,rfl,rfl,dF (.inl (.inl L2.o)) (v:=.ref b3) (by rw[ep];exact LL.ix eb3) ?_];show#[_,rfl,_,rfl,rdG po2 (jq T) #[b,l,tn2,rfl,hb2,fun c4 G4 nc4 f4 s4=>?_]];have lp:=RG.mU (decide (tn2 % 2=1)) l;show#[b3,c4,_,_,rfl,rfl,s4 _ _ hb3,f4,gK (aJ (by rw[aD,aD];lia)),fun c5 nc5=>?_];rw[<-aR]
      k_dat (nwA nc5,G5,s5,f5) "n"
      refine .inr #[c5,_,rfl,.inl (.inl f5),by rw[cu];lia,fun c6 ns nc6 pm so=>?_];obtain rfl:=RG.wF pm so
      k_dat (nwA nc6,G6,s6,f6) "n"
      have s26:=s4.trans (s5.trans s6);have L6:=L2.same s26;have n6:c6≠g:=aL (ak ((s4.trans s5) _ _ L2.o) nc6);show#[_,rfl,_,rfl,_,_,rfl,rfl,.inl #[g,_,_,j+1,rfl,rfl,L6.o,by rw[ep];exact xJ (by rwa[aD,lA,LX.n]),?_]];have L7:=L6.set (i:=j+1) f6 n6;have po7:(upd G6 g (.lst ((((bs++[c]).set j c1).map V.ref).set (j+1) (.ref c6)))) p=_:=(ao pg).trans (s26 _ _ po2);have s07:But p H (upd G6 g (.lst ((((bs++[c]).set j c1).map V.ref).set (j+1) (.ref c6)))):=fun x o e n=>by rw[ao (ak e hg)];exact s26 _ _ (s02 x o e n)
      generalize upd G6 g (.lst ((((bs++[c]).set j c1).map V.ref).set (j+1) (.ref c6)))=G7 at L7 po7 s07 ⊢;show#[_,rfl,p,dx,_,rfl,po7,rgN tb_g%,_,rfl,p,dx,r,tt,ov2,un2,tn2,2 ^ j,oV mi,oV ma,rf,rfl,po7,?_];have R8:=R.turn MR el hgt
      k_dat (nbA,G8,zG8,po8) "n"
      have L8:LL G8 g _ _:=L7.but zG8 po7;have s08:But p H G8:=s07.trans zG8;show#[_,rfl,_,_,rfl,rfl,_,rfl,_,_,rfl,rfl,dR tb_g% tb_g%,?_,?_]
      ·show#[_,_,j+1,_,_,_,_,by rw [<- ep,zA];rfl,L8,po8,s08,R8,by rw [lA,lA];exact LN,fun c hc=>by
        rcases BW hc with z|z
        ·rcases BW z with z|z
         ·exact fr2 c z
         ·rw[z];exact .inr (d9 btX nc1 fun y=>by rw[y,pX]at nc1;cases nc1)
        ·rw [z];exact .inr (d9 (s02.trans ((s4.trans s5).but p)) nc6 fun y=>by rw [y,(s4.trans s5) _ _ po2] at nc6;cases nc6)]
      ·show(1000-((j:Int)+1)).toNat<(1000-(j:Int)).toNat;lia
     ·have he:¬ j+1=ms.length:=fun z=>he (mP (mN V.int (by rw[aD,L.n];lia)));obtain⟨b',nx,eb',el',_⟩:=L.at (i:=j+1) tb_g%;have MR:RG.More j ms ms nx:=.inl #[rfl,el'];have SG:Same G G:=Same.refl _;have LN:=ln;obtain⟨h1,h2,_,_,_⟩:=MR.at el;obtain⟨hp1,_⟩:=dI.mp h1;obtain⟨hp2,_⟩:=dI.mp h2;have hb':G b=some (.lst (l.map V.int)):=SG _ _ hb;show#[_,rfl,b,l,rfl,hb',fun c1 G1 nc1 f1 s1=>?_];have L1:=L.same s1;have n1:c1≠g:=aL (ak L.o nc1);show#[_,rfl,_,rfl,.inl #[g,_,_,j,rfl,rfl,L1.o,xJ (by rwa[aD,L.n]),?_]];have L2:=L1.set (i:=j) f1 n1;have pg:p≠g:=fP (s1 _ _ gp) L1.o (by intro z;cases z);have u2:∀x o,G1 x=some o->x≠g->(upd G1 g (.lst ((bs.map V.ref).set j (.ref c1)))) x=some o:=fun x o e n=>by rwa[ao n]
      have po2:=u2 _ _ (s1 _ _ gp) pg;have hb2:=u2 _ _ (s1 _ _ hb') nbg;have s02:But p H (upd G1 g (.lst ((bs.map V.ref).set j (.ref c1)))):=fun x o e n=>u2 _ _ (s1 _ _ (bt x o e n)) (ak e hg);generalize upd G1 g (.lst ((bs.map V.ref).set j (.ref c1)))=G2 at L2 po2 hb2 s02 ⊢;have e2:(ms.set j (RG.lft l))[j+1]? = some nx:=by rwa[Ie tb_g%]
      obtain⟨b3,l3,eb3,el3,hb3⟩:=L2.at (i:=j+1) (by rwa[lA]);obtain rfl:l3=nx:=by rw[e2]at el3;exact(bC el3).symm
      have nx2:l3.length<=31:=by
       rcases MR with⟨_,e⟩|⟨_,_,e⟩
       ·exact R.b2 hs l3 (by rw[RG.fV e];exact bY)
       ·rw[e];exact cg _
      show#[_,rfl,_,rfl,_,_,rfl,rfl,dF (.inl (.inl L2.o)) (v:=.ref b3) (by rw[ep];exact LL.ix eb3) ?_];show#[_,rfl,_,rfl,rdG po2 (jq T) #[b,l,tn2,rfl,hb2,fun c4 G4 nc4 f4 s4=>?_]];have lp:=RG.mU (decide (tn2 % 2=1)) l;show#[b3,c4,_,_,rfl,rfl,s4 _ _ hb3,f4,gK (aJ (by rw[aD,aD];lia)),fun c5 nc5=>?_];rw[<-aR]
      k_dat (nwA nc5,G5,s5,f5) "n"
      refine .inr #[c5,_,rfl,.inl (.inl f5),by rw[cu];lia,fun c6 ns nc6 pm so=>?_];obtain rfl:=RG.wF pm so
      k_dat (nwA nc6,G6,s6,f6) "n"
      have s26:=s4.trans (s5.trans s6);have L6:=L2.same s26;have n6:c6≠g:=aL (ak ((s4.trans s5) _ _ L2.o) nc6);show#[_,rfl,_,rfl,_,_,rfl,rfl,.inl #[g,_,_,j+1,rfl,rfl,L6.o,by rw[ep];exact xJ (by rwa[aD,lA,L.n]),?_]];have L7:=L6.set (i:=j+1) f6 n6;have po7:(upd G6 g (.lst (((bs.set j c1).map V.ref).set (j+1) (.ref c6)))) p=_:=(ao pg).trans (s26 _ _ po2);have s07:But p H (upd G6 g (.lst (((bs.set j c1).map V.ref).set (j+1) (.ref c6)))):=fun x o e n=>by rw[ao (ak e hg)];exact s26 _ _ (s02 x o e n)
      generalize upd G6 g (.lst (((bs.set j c1).map V.ref).set (j+1) (.ref c6)))=G7 at L7 po7 s07 ⊢;show#[_,rfl,p,dx,_,rfl,po7,rgN tb_g%,_,rfl,p,dx,r,tt,ov2,un2,tn2,2 ^ j,oV mi,oV ma,rf,rfl,po7,?_];have R8:=R.turn MR el hgt
      k_dat (nbA,G8,zG8,po8) "n"
      have L8:LL G8 g _ _:=L7.but zG8 po7;have s08:But p H G8:=s07.trans zG8;show#[_,rfl,_,_,rfl,rfl,_,rfl,_,_,rfl,rfl,dR tb_g% tb_g%,?_,?_]
      ·show#[_,_,j+1,_,_,_,_,by rw [<- ep,zA];rfl,L8,po8,s08,R8,by rw [lA,lA];exact LN,fun c hc=>by
        rcases BW hc with z|z
        ·rcases BW z with z|z
         ·exact fr c z
         ·rw[z];exact .inr (d9 bt nc1 fun y=>by rw[y,gp]at nc1;cases nc1)
        ·rw [z];exact .inr (d9 (s02.trans ((s4.trans s5).but p)) nc6 fun y=>by rw [y,(s4.trans s5) _ _ po2] at nc6;cases nc6)]
      ·show(1000-((j:Int)+1)).toNat<(1000-(j:Int)).toNat;lia
    ·have hle:(l.length:Int)<=r:=by
      have:¬ r<((l.map V.int).length:Int):=fun z=>hg2 (mP z);rw[aD]at this;lia
     show#[_,rfl,_,_,rfl,rfl,_,rfl,_,_,rfl,rfl,dR tb_g% tb_g%,?_,?_]
     ·show#[bs,ms,j+1,_,_,_,_,by rw[<-ep,zA];rfl,L,gp,bt,R.keep el hle,ln,fr]
     ·show(1000-((j:Int)+1)).toNat<(1000-(j:Int)).toNat;lia
   ·have hj:ms.length<=j:=by
     have:¬ (j:Int)<((bs.map V.ref).length:Int):=fun z=>hc (mP z);rw[aD,L.n]at this;lia
    show#[_,rfl,_,rfl,p,_,dx,_,rfl,gp,T.fU,T.W8,tb_g%,?_];rw[Hr];exact q g bs ms tn2 ov2 un2 _ (R.done hj) hg (L.but But.upd gp) aj (bt.trans But.upd) ln fr
  ·exact fun σ H Q Q' hq h=>lN (mD (bW 3) (Ro (iW (bW 2) uK))) σ H Q Q' hq h
def lo2:Option Int->Option Int->Option Int
 |none,b=>b
 |a,none=>a
 |some a,some b=>some (min a b)
def hi2:Option Int->Option Int->Option Int
 |none,b=>b
 |a,none=>a
 |some a,some b=>some (max a b)
def aib(a b:Option Int):List Int:=a.toList++b.toList
theorem aqW(h:Best true .non (aib a b) v):v=oV (lo2 a b):=by
 rcases h with⟨e,rfl⟩|⟨m,rfl,hm,hb⟩
 ·cases a <;> cases b <;> first|rfl|cases e
 ·cases a with
  |none=>cases b with
   |none=>cases hm
   |some b=>rw[bO.mp hm];rfl
  |some a=>cases b with
   |none=>rw[bO.mp hm];rfl
   |some b =>
    have h1:=hb a bY;have h2:=hb b (cF _ bY);rw[mI rfl]at h1 h2;have:m=min a b:=by
     rcases aP.mp hm with z|z
     ·lia
     ·have:=bO.mp z;lia
    rw[this];rfl
theorem aqX(h:Best false .non (aib a b) v):v=oV (hi2 a b):=by
 rcases h with⟨e,rfl⟩|⟨m,rfl,hm,hb⟩
 ·cases a <;> cases b <;> first|rfl|cases e
 ·cases a with
  |none=>cases b with
   |none=>cases hm
   |some b=>rw[bO.mp hm];rfl
  |some a=>cases b with
   |none=>rw[bO.mp hm];rfl
   |some b =>
    have h1:=hb a bY;have h2:=hb b (cF _ bY);rw[mB tb_g%]at h1 h2;have:m=max a b:=by
     rcases aP.mp hm with z|z
     ·lia
     ·have:=bO.mp z;lia
    rw[this];rfl
def known(a b:Option Int)(i:Nat):List V:=(([a,b].take i).flatMap Option.toList).map V.int
def Hs(f:Option Int->Option Int->Option Int):Sp:=fun vs H Q _=>Ex2 fun a b=>vs=[oV a,oV b]/\∀H',Same H H'->Q (oV (f a b)) H'
theorem arW(T:Tx K mg A):FnK P w base T.Hi CX0 1 (Hs lo2)/\FnK P w base T.Bs CX0 1 (Hs hi2):=by
 show#[#[T.Hi,T.Hi.ok Kr (fun vs H Q E h=>?_) (fun cdv B outer s H vs Q E hr h=>?_)],#[T.Bs,T.Bs.ok Ez (fun vs H Q E h=>?_) (fun cdv B outer s H vs Q E hr h=>?_)]]
 ·obtain⟨a,b,rfl,_⟩:=h;rfl
 rotate_left
 ·obtain⟨a,b,rfl,_⟩:=h;rfl
 obtain⟨a,b,rfl,q⟩:=h;show#[_,by k_dat ([amY],[Ez.nd,uJ false T.ac7 ?_ ?_ rfl],[jE 2 Ez.nd [] Q11 [] ?_ (fun _ _ _ _=>(Oo (Ga ZV (pv 0) afE (Ea _)))) (fun _ _ _ _=>(pv 0))]) "p",?_];rotate_left
 obtain⟨a,b,rfl,q⟩:=h;show#[_,by k_dat ([amY],[Kr.nd,uJ true T.aoP ?_ ?_ rfl],[jE 2 Kr.nd [] Q11 [] ?_ (fun _ _ _ _=>(Oo (Ga ZV (pv 0) afE (Ea _)))) (fun _ _ _ _=>(pv 0))]) "p",?_];all_goals
  show#[_,rfl,_,rfl,tb_g%,fun t ht=>?_]
  k_dat (nwA ht,H1,s1,f1) "n"
  show#[t,rfl,#[_,.inl (.inl f1)],fun D hD=>?_];refine agr (K:=K) (a:=t) (xs:=[oV a,oV b]) (fun i ys G=>ys=known a b i/\G=upd H1 D (.lst ys)) #[rfl,rfl] ?_ ?_ ?_ ?_ ?_
  ·rintro i ys G hi ⟨rfl,rfl⟩;refine⟨.inl (.inl ((Same.new hD) _ _ f1)),aj,aJ ?_⟩;unfold known;cases a <;> cases b <;> match i,hi with
    |0,_=>simp
    |1,_=>simp
    |2,_=>simp
  ·rintro i ys G x hx ⟨rfl,rfl⟩
   match i,hx with
   |0,hx =>
    obtain rfl:oV a=x:=bC hx;cases a with
    |none=>show#[_,rfl,rfl,_,rfl,dh (fun h=>mM h tb_g%) (fun _=>#[aj,rfl,rfl])]
    |some z=>show#[_,rfl,rfl,_,rfl,dh (fun _=>#[_,rfl,aj,rfl,by rw[cA]]) (fun h=>mM (show(!decide (V.int z=V.non))=true by rw[xj (by intro y;cases y)];rfl) h)]
   |1,hx =>
    obtain rfl:oV b=x:=bC hx;cases b with
    |none=>show#[_,rfl,rfl,_,rfl,dh (fun h=>mM h tb_g%) (fun _=>#[aj,by cases a <;> rfl,by cases a <;> rfl])]
    |some z=>show#[_,rfl,rfl,_,rfl,dh (fun _=>#[_,rfl,aj,by cases a <;> rfl,by rw[cA]]) (fun h=>mM (show(!decide (V.int z=V.non))=true by rw[xj (by intro y;cases y)];rfl) h)]
  ·rintro ys G ⟨rfl,rfl⟩;have ek:known a b [oV a,oV b].length=(aib a b).map V.int:=by cases a <;> cases b <;> rfl
   rw[ek];show#[_,rfl,D,aib a b,rfl,.inl (.inl aj),fun v hv=>?_]
   first|rw[aqW hv]|rw[aqX hv]
   exact q _ (s1.trans (Same.new hD))
  ·exact fun σ H R R' hr h=>lN (aal (r:=fun x y H Q=>y=.non/\Q (.bl (!decide (x=.non))) H) (fun x y H Q Q' hq h=>#[h.1,hq _ _ h.2]) (bW 0) (Ej _)) σ H R R' hr h
  ·exact bW 0
theorem Xh(T:Tx K mg A):FnK P w base T.Hi CX0 1 (Hs lo2):=(arW T).1
theorem TV(T:Tx K mg A):FnK P w base T.Bs CX0 1 (Hs hi2):=(arW T).2
def aqY(A:Ad):Sp:=fun vs H Q _=>Ex3 fun p dx r=>mV (vs=[.ref p,.int r]) (H p=some (.ins A.C'0 dx [])) (∀d H',H d=none->H' p=some (.ins A.C'0 dx (rg (.int r) (.int 0) (.int 0) (.int 0) (.int 0) .non .non (.ref d)))->H' d=some (.lst [])->But p H H'->Q .non H')
theorem Cw(T:Tx K mg A):FnM P w mg base T.wO CX0 1 (aqY A):=by
 k_dat (T.wO,T.wO.ok,Vm) "f"
 ·obtain⟨p,dx,r,rfl,hp,q⟩:=h
  walk_at "t"
  k_dat lq "c"
  show#[_,rfl,_,rfl,p,_,dx,[],rfl,hp,T.fU,T.na'6,tb_g%,?_]
  k_dat (dx,aj,T.fU,T.agP) "k"
  k_dat (dx,aj,T.fU,T.agQ) "k"
  k_dat (dx,aj,T.fU,T.agR) "k"
  k_dat (dx,aj,T.fU,T.Lj) "k"
  k_dat (dx,aj,T.fU,T.SJ) "k"
  k_dat (dx,aj,T.fU,T.SM) "k"
  rw[cA,cA,cA,cA,cA,cA];show#[tb_g%,fun d hd=>?_];have npd:p≠d:=fun z=>by rw[<-z,aj]at hd;cases hd
  rw[ao (aL npd)]at hd;show#[_,rfl,p,_,dx,_,rfl,(by rw[ao npd];exact aj),T.fU,T.W8,tb_g%,?_];refine q d _ hd (Qt aj (by rw[au9])) (by rw[ao (aL npd),aj]) fun b o e hb=>?_;rwa[ao hb,ao (ak e hd),ao hb]
structure Rn(A:Ad)(H:Hp)(p dx a:Addr)(bs:List Addr)(r tt ov un tn:Int)(mi ma:Option Int)(ls:RG.Ls):Prop where
 o:H p=some (.ins A.C'0 dx (rg (.int r) (.int tt) (.int ov) (.int un) (.int tn) (oV mi) (oV ma) (.ref a)))
 l:LL H a bs ls
section
variable{A:Ad}{H H':Hp}{p dx a:Addr}{bs:List Addr}{r tt ov un tn:Int}
theorem Rn.same(h:Rn A H p dx a bs r tt ov un tn mi ma ls)(s:Same H H'):Rn A H' p dx a bs r tt ov un tn mi ma ls:=#[s _ _ h.o,h.l.same s]
theorem Rn.but(h:Rn A H p dx a bs r tt ov un tn mi ma ls)(b:But q H H')(hq:H q=some (.ins C e fs))(n:p≠q):Rn A H' p dx a bs r tt ov un tn mi ma ls:=#[b _ _ h.o n,h.l.but b hq]
theorem Rn.new(h1:H p=some (.ins A.C'0 dx (rg (.int r) (.int 0) (.int 0) (.int 0) (.int 0) .non .non (.ref d))))(h2:H d=some (.lst [])):Rn A H p dx d [] r 0 0 0 0 none none []:=
 #[h1,#[h2,rfl,fun i b l e=>by (cases i <;> cases e),fun z=>nomatch z]]
end
def avf(A:Ad):Sp:=fun vs H Q _=>Ex8 fun p dx a bs r tt ov un=>Ex6 fun tn t w mi ma ls=>qT (vs=[.ref p,.int t,.int w]) (Rn A H p dx a bs r tt ov un tn mi ma ls) (2<=r) (r<=64) (0<=w) (w<2 ^ 64) (ls.length<=400) (uU ((∀l∈ls,l.length<=62)) (((∀l∈ls,l.length<=30)\/∀l∈ls,(l.length:Int)+1<=r)) (RG.val ls<2 ^ 400) (∀a' bs' out tn' ov' un' H',RG.Stl r 0 tn ov un (RG.fQ t ls w.toNat) out tn' ov' un'->Rn A H' p dx a' bs' r (tt+w) ov' un' tn' (lo2 mi (some t)) (hi2 ma (some t)) out->But p H H'->H a'=none->(∀c∈bs',c∈bs\/H c=none)->Q .non H'))
theorem Ht(T:Tx K mg A):FnM P w mg base T.Ag CX0 5 (avf A):=by
 k_dat (T.Ag,T.Ag.ok,aaY) "f"
 ·obtain⟨p,dx,a,bs,r,tt,ov,un,tn,t,w,mi,ma,ls,rfl,hR,r2,r64,w0,w64,h3,h1,h6,hv,q⟩:=h;show#[_,by k_dat ([],[aB (Xh T) ?_,aB (TV T) ?_,aB (Vs T) ?_,cI ?_ T.fU (yE T) ?_],[]) "p",?_]
  k_dat (hR.o,fH,T.fU,T.agP) "q"
  rw[xu]
  k_dat (nbA,H1,b1,o1) "n"
  have L1:=hR.l.but b1 hR.o;show#[_,rfl,rdG o1 (mW T) #[_,rfl,mi,some t,rfl,fun H2 s2=>#[_,rfl,p,_,dx,_,rfl,s2 _ _ o1,T.fU,T.SJ,tb_g%,?_]]];rw[xH]
  k_dat (nbA,H3,b3,o3) "n"
  have L3:=(L1.same s2).but b3 (s2 _ _ o1);have b03:But p H H3:=(b1.trans (s2.but p)).trans b3;show#[_,rfl,rdG o3 (o9 T) #[_,rfl,ma,some t,rfl,fun H4 s4=>#[_,rfl,p,_,dx,_,rfl,s4 _ _ o3,T.fU,T.SM,tb_g%,?_]]];rw[Ax]
  k_dat (nbA,H5,b5,o5) "n"
  have L5:=(L3.same s4).but b5 (s4 _ _ o3);have b05:But p H H5:=(b03.trans (s4.but p)).trans b5;show#[_,rfl,p,dx,_,rfl,o5,rgN tb_g%,?_];show#[_,rfl,rdG o5 (gb T) #[_,rfl,_,rfl,a,bs,ls,t,w,rfl,L5,w0,w64,by lia,fun l hl=>by have:=h1 l hl;lia,fun g bs' H6 ng L6 s6 fr6=>?_]];show#[p,dx,g,bs',_,r,tt+w,ov,un,tn,lo2 mi (some t),hi2 ma (some t),.ref a,rfl,s6 _ _ o5,L6,r2,r64,(h6.imp (fun z=>RG.Ri t _ _ z) fun z l m=>by have:=RG.Ri t (b:=(r-1).toNat) w.toNat ls (fun k hk=>by have:=z k hk;lia) l m;lia),?_,?_,fun g2 bs2 out tn' ov' un' H7 st ng2 L7 o7 b7 _ fr7=>?_]
  ·have:=RG.WD t 64 w.toNat ls tb_g%;lia
  ·rw[RG.Wy];have:(2:Nat) ^ 400+2 ^ 64<2 ^ 500:=by decide
   lia
  ·have b07:But p H H7:=(b05.trans (s6.but p)).trans b7;have n5:H5 g2=none:=s6.free ng2;refine q g2 bs2 out tn' ov' un' H7 st #[o7,L7] b07 (d9 b05 n5 fun z=>by rw[z,o5]at n5;cases n5) fun c hc=>?_;have h5:H5 c=none->c∈bs\/H c=none:=fun n=>.inr (d9 b05 n fun z=>by rw[z,o5]at n;cases n);rcases fr7 c hc with z|z
   ·rcases fr6 c z with z|z
    ·exact .inl z
    ·exact h5 z
   ·exact h5 (s6.free z)
def wf(au aG dU dW:V):List (Str × V):=[("room",au),("reach",aG),("clock",dU),("boxes",dW)]
theorem xK{K:aH}{A:Ad}(T:Tx K mg A):Fd K A.C'1 ("room" : Str) (wf au aG dU dW) au:=#[T.uN,T.ahZ,rfl]
theorem uW{K:aH}{A:Ad}(T:Tx K mg A):Fd K A.C'1 ("reach" : Str) (wf au aG dU dW) aG:=#[T.uN,T.ah0,rfl]
theorem gj{K:aH}{A:Ad}(T:Tx K mg A):Fd K A.C'1 ("clock" : Str) (wf au aG dU dW) dU:=#[T.uN,T.Ln,rfl]
theorem mX{K:aH}{A:Ad}(T:Tx K mg A):Fd K A.C'1 ("boxes" : Str) (wf au aG dU dW) dW:=#[T.uN,T.W9,rfl]
theorem avh(au aG dU dW:V):bZ "boxes" dW (bZ "clock" dU (bZ "reach" aG (bZ "room" au [])))=wf au aG dU dW:=by
 unfold wf
 walk_at "rec"
theorem pB(au aG dU dW y:V):bZ "clock" y (wf au aG dU dW)=wf au aG y dW:=by
 unfold wf
 walk_at "rec"
theorem Hu(au aG dU dW y:V):bZ "boxes" y (wf au aG dU dW)=wf au aG dU y:=by
 unfold wf
 walk_at "rec"
theorem Xi(au aG dU dW:V){m:Str}(Fb:¬ m = "room")(aa1:¬ m = "reach")(aqZ:¬ m = "clock")(aq0:¬ m = "boxes"):(wf au aG dU dW).lookup m=none:=by
 unfold wf;rw[cG Fb,cG aa1,cG aqZ,cG aq0];rfl
abbrev Bp:=Addr × WN.Box
def bt(b:WN.Box):HO:=.tup [.int b.f,.int b.l,.int b.s]
structure Bxs(H:Hp)(l:Addr)(ps:List Bp):Prop where
 l:H l=some (.lst (ps.map fun p=>V.ref p.1))
 t:∀p∈ps,H p.1=some (bt p.2)
def bx(ps:List Bp):List WN.Box:=ps.map (·.2)
theorem gk(ps:List Bp):(bx ps).length=ps.length:=aD _
theorem Bxs.same{H H':Hp}{l:Addr}{ps:List Bp}(h:Bxs H l ps)(s:Same H H'):Bxs H' l ps:=#[s _ _ h.l,fun p m=>s _ _ (h.t p m)]
theorem Bxs.but{H H':Hp}{l q C e:Addr}{fs:List (Str × V)}{ps:List Bp}(h:Bxs H l ps)(s:But q H H')(hq:H q=some (.ins C e fs)):Bxs H' l ps:=
 #[s _ _ h.l (fP h.l hq (by intro z;cases z)),fun p m=>s _ _ (h.t p m) (fP (h.t p m) hq (by intro z;cases z))]
theorem Ou{ps:List Bp}{i:Nat}{y:V}(h:(ps.map fun p=>V.ref p.1)[i]? = some y):∃p,ps[i]? = some p/\y=V.ref p.1:=by
 rw[cP]at h;cases e:ps[i]? with
 |none=>rw[e]at h;cases h
 |some z=>rw[e]at h;show#[z,rfl,(bC h).symm]
def gn(room edge:Int)(bs:List WN.Box):List WN.Box:=(WN.settled room (bs.filter fun b=>decide (edge<b.l)).reverse).reverse
def aoY:Sp:=fun vs H Q _=>Ex3 fun l room ps=>KC (vs=[.ref l,.int room]) (Bxs H l ps) (ps.length<=500) (0<=room) (room<=64) (∀l' ps' H',H l'=none->bx ps'=(WN.settled room (bx ps).reverse).reverse->Bxs H' l' ps'->Same H H'->Q (.ref l') H')
def adb:Option Bp->V
 |none=>.non
 |some h=>.ref h.1
theorem avi{ps:List Bp}(h:ps.reverse[i]? = some p):(bx ps).reverse.drop i=p.2::(bx ps).reverse.drop (i+1):=by
 unfold bx;rw[<-um,<-O9,<-O9];have hi:i<ps.reverse.length:=(dI.mp h).1;rw[K8 hi,cR];rw[(dI.mp h).2]
theorem ajA(T:Tx K mg A):FnK P w base T.S8 CX0 1 aoY:=by
 k_dat (T.S8,T.S8.ok,Xd) "f"
 ·obtain⟨l,room,ps,rfl,hb,h500,r0,r64,q⟩:=h;show#[_,by k_dat ([aut,ZV],[Xd.nd,ags rfl T.qN ?_,agu T.Ey T.qN ?_ rfl],[]) "p",?_]
  k_dat lq "c"
  show#[tb_g%,fun D hD=>?_]
  k_dat lqg "c"
  have sD:Same H (upd H D (.lst [])):=Same.new hD;show#[_,rfl,l,_,rfl,.inl (.inl (sD _ _ hb.l)),aaj (K:=K) (a:=l) (xs:=ps.map fun p=>V.ref p.1) (fun i σ H2=>∃ (xb:Option V) (S:Int) (ds:List Bp) (hand:Option Bp),σ=[some (.ref l),some (.int room),some (.ref D),some (.int S),some (adb hand),xb]/\Same H H2/\Bxs H2 D ds/\ds.length<=i /\
    (hand=none->i=0/\ds=[]/\S=0)/\(∀ h,hand=some h->1<=i/\H2 h.1=some (bt h.2)/\bx ds++WN.settle room S h.2 ((bx ps).reverse.drop i)=WN.settled room (bx ps).reverse))
   ⟨none,0,[],none,rfl,sD,⟨aj,(fun p m=>nomatch m)⟩,aK _,fun _=>⟨rfl,rfl,rfl⟩,(fun h e=>nomatch e)⟩ (fun i σ H2 _ ⟨_,_,_,_,_,s,_⟩=>.inl (.inl (s _ _ hb.l))) ?_ ?_]
  ·rintro i y σ H2 hi ⟨xb,S,ds,hand,rfl,s2,hD2,hlen,hn,hs⟩;rw[<-um]at hi
   k_dat (p,hp,Ou,hi) "z"
   have hip:i<ps.length:=by
    have:=(dI.mp hp).1
    rwa [oH]at this
   have pm:p∈ps:=uo.mp (mv hp);have ht:=s2 _ _ (hb.t p pm);have hdrop:=avi hp;cases hand with
   |none =>
    obtain⟨rfl,rfl,rfl⟩:=hn rfl;refine⟨_,rfl,rfl,_,rfl,?_⟩;rw[show decide (adb none=V.non)=true from acy];refine Uy ⟨_,rfl,_,0,[],some p,rfl,s2,hD2,cg _,(fun e=>nomatch e),fun h e=>?_⟩;obtain rfl:=bC e;refine⟨aK _,ht,?_⟩;rw[Yb]at hdrop;rw[hdrop];rfl
   |some h =>
    obtain⟨i1,hht,heq⟩:=hs h rfl;rw[hdrop,WN.gB]at heq;show#[_,rfl,rfl,_,rfl,?_];rw[show decide (adb (some h)=V.non)=false from acw];refine JH ?_
    k_dat ld "c"
    show#[_,rfl,jm (.inl (.inl hht)) (v:=.int h.2.s) rfl #[_,rfl,jm (.inl (.inl ht)) (v:=.int p.2.s) rfl #[_,_,rfl,rfl,_,rfl,_,_,rfl,rfl,dR tb_g% tb_g%,_,rfl,_,_,rfl,rfl,_,rfl,dh (fun hc=>?_) (fun hc=>?_)]]]
    ·have hc:(h.2.s+p.2.s)*room<=S:=mS hc;rw[mI hc]at heq;refine⟨_,rfl,jm (.inl (.inl ht)) (v:=.int p.2.f) rfl ⟨_,rfl,jm (.inl (.inl hht)) (v:=.int h.2.l) rfl ⟨_,rfl,jm (.inl (.inl ht)) (v:=.int p.2.s) rfl ⟨_,rfl,jm (.inl (.inl hht)) (v:=.int h.2.s) rfl ⟨_,_,rfl,rfl,tb_g%,fun t1 ht1=>?_⟩⟩⟩⟩⟩;have s3:Same H2 (upd H2 t1 (bt ⟨p.2.f,h.2.l,p.2.s+h.2.s⟩)):=Same.new ht1;refine⟨_,S,ds,some (t1,⟨p.2.f,h.2.l,p.2.s+h.2.s⟩),rfl,s2.trans s3,hD2.same s3,by lia,(fun e=>nomatch e),fun h' e=>?_⟩;obtain rfl:=bC e;refine⟨by lia,aj,?_⟩;rwa[show p.2.s+h.2.s=h.2.s+p.2.s by lia]
    ·have hc:¬ (h.2.s+p.2.s)*room<=S:=fun z=>hc (mP z);rw[mB hc]at heq;show#[_,rfl,.inl #[rfl,_,.inl (.inl hD2.l)],_,rfl,D,_,_,rfl,rfl,hD2.l,aJ (by rw[aD];lia),?_];have nD:∀a b,H2 a=some (bt b)->a≠D:=fun a b e=>fP e hD2.l (by intro z;cases z);have ht3:∀L,(upd H2 D L) h.1=some (bt h.2):=fun L=>by rwa[ao (nD _ _ hht)]
     show#[_,rfl,_,rfl,jm (.inl (.inl (ht3 _))) (v:=.int h.2.s) rfl #[_,_,rfl,rfl,?_]];show#[_,rfl,_,S+h.2.s,ds++[h],some p,rfl,fun b o e=>?_,#[?_,fun z m=>?_],by rw[cu];show ds.length+1<=i+1;lia,(fun e=>nomatch e),fun h' e=>?_]
     ·rw[ao (ak e hD)];exact s2 _ _ e
     ·rw[aj,aR];rfl
     ·walk_at "e"
      ·have:=hD2.t z m;rwa[ao (nD _ _ this)]
      ·rw[bO.mp m];exact ht3 _
     ·obtain rfl:=bC e;show#[by lia,by rwa[ao (nD _ _ ht)],?_];unfold bx at heq ⊢;rwa[aR,iB]
  ·rintro σ H2 ⟨xb,S,ds,hand,rfl,s2,hD2,hlen,hn,hs⟩;rw[aD]at hlen hn hs;cases hand with
   |none =>
    obtain⟨h0,rfl,rfl⟩:=hn rfl;have e0:ps=[]:=BX.mp h0;subst e0;show#[_,rfl,rfl,_,rfl,?_];rw[show decide (adb none=V.non)=true from acy];refine JH #[_,rfl,D,_,rfl,.inl (.inl hD2.l),fun l' hl'=>?_];exact q l' [] _ (s2.free hl') rfl #[aj,(fun p m=>nomatch m)] (s2.trans (Same.new hl'))
   |some h =>
    obtain⟨i1,hht,heq⟩:=hs h rfl;show#[_,rfl,rfl,_,rfl,?_];rw[show decide (adb (some h)=V.non)=false from acw];refine Uy #[_,rfl,.inl #[rfl,_,.inl (.inl hD2.l)],_,rfl,D,_,_,rfl,rfl,hD2.l,aJ (by rw[aD];lia),?_];have nD:∀a b,H2 a=some (bt b)->a≠D:=fun a b e=>fP e hD2.l (by intro z;cases z);have eL:((ds.map fun p=>V.ref p.1)++[V.ref h.1])=(ds++[h]).map fun p=>V.ref p.1:=by rw[aR];rfl
    have s3:Same H (upd H2 D (.lst ((ds.map fun p=>V.ref p.1)++[V.ref h.1]))):=fun b o e=>by rw[ao (ak e hD)];exact s2 _ _ e
    have t3:∀p∈ds++[h],(upd H2 D (.lst ((ds.map fun p=>V.ref p.1)++[V.ref h.1]))) p.1=some (bt p.2):=fun z m=>by
     walk_at "e"
     ·have:=hD2.t z m;rwa[ao (nD _ _ this)]
     ·rwa[bO.mp m,ao (nD _ _ hht)]
    show#[_,rfl,D,_,rfl,.inl (.inl aj),fun l' hl'=>?_];refine q l' (ds++[h]).reverse _ (s3.free hl') ?_ #[?_,fun z m=>?_] (s3.trans (Same.new hl'))
    ·rw[adU (by rw[oH,gk];exact aK _),WN.Ef]at heq;rw[<-heq];unfold bx;rw[um,aR];rfl
    ·rw[aj,um,<-eL];rfl
    ·rw[ao (ak (t3 z (uo.mp m)) hl')];exact t3 z (uo.mp m)
def aq1(A:Ad):Sp:=fun vs H Q _=>Ex4 fun p dx r k=>mV (vs=[.ref p,.int r,.int k]) (H p=some (.ins A.C'1 dx [])) (∀d H',H d=none->H' p=some (.ins A.C'1 dx (wf (.int r) (.int k) (.int 0) (.ref d)))->H' d=some (.lst [])->But p H H'->Q .non H')
theorem Ay(T:Tx K mg A):FnM P w mg base T.tR CX0 1 (aq1 A):=by
 k_dat (T.tR,T.tR.ok,Tj) "f"
 ·obtain⟨p,dx,r,k,rfl,hp,q⟩:=h
  walk_at "t"
  show#[_,rfl,_,rfl,p,_,dx,[],rfl,hp,T.uN,T.ahZ,tb_g%,?_];show#[_,rfl,_,rfl,p,_,dx,_,rfl,aj,T.uN,T.ah0,tb_g%,?_]
  k_dat (dx,aj,T.uN,T.Ln) "k"
  rw[cA,cA];show#[tb_g%,fun d hd=>?_];have npd:p≠d:=fun z=>by rw[<-z,aj]at hd;cases hd
  rw[ao (aL npd)]at hd;show#[_,rfl,p,_,dx,_,rfl,(by rw[ao npd];exact aj),T.uN,T.W9,tb_g%,?_];refine q d _ hd (Qt aj (by rw[avh])) (by rw[ao (aL npd),aj]) fun b o e hb=>?_;rwa[ao hb,ao (ak e hd),ao hb]
structure Wn(A:Ad)(H:Hp)(p dx l:Addr)(r k c:Int)(ps:List Bp):Prop where
 o:H p=some (.ins A.C'1 dx (wf (.int r) (.int k) (.int c) (.ref l)))
 b:Bxs H l ps
theorem Wn.same{A:Ad}(h:Wn A H p dx l r k c ps)(s:Same H H'):Wn A H' p dx l r k c ps:=#[s _ _ h.o,h.b.same s]
theorem Wn.but{A:Ad}(h:Wn A H p dx l r k c ps)(s:But q H H')(hq:H q=some (.ins C e fs))(n:p≠q):Wn A H' p dx l r k c ps:=#[s _ _ h.o n,h.b.but s hq]
def ajB(A:Ad):Sp:=fun vs H Q _=>Ex8 fun p dx l l0 r k c ps=>Nr (vs=[.ref p,.ref l]) (H p=some (.ins A.C'1 dx (wf (.int r) (.int k) (.int c) (.ref l0)))) (Bxs H l ps) (ps.length<=500) (0<=r) (r<=64) (∀l' ps' H',bx ps'=gn r (c-k) (bx ps)->Wn A H' p dx l' r k c ps'->But p H H'->H l'=none->Q .non H')
theorem lV(T:Tx K mg A):FnM P w mg base T.nR CX0 2 (ajB A):=by
 k_dat (T.nR,T.nR.ok,iZ) "f"
 ·obtain⟨p,dx,l,l0,r,k,c,ps,rfl,hp,hb,h500,r0,r64,q⟩:=h;show#[_,by k_dat ([dO],[iZ.nd,amW (i:=2) iZ.nd rfl (Or.inr rfl) ?_,aB (ajA T) ?_],[jE 3 iZ.nd [("edge",~~~s+1)] ["box","edge"] [2] (tt:=(am4 (tOp _ (tOp (QW K) _ _) _))) ?_ (fun _ _ _ _=>(Oo (Ga arI (QS (ixG tb_g%) (pv 0) JD (fun _ _=>rfl)) (pv 1) (Ea _)))) (fun _ _ _ _=>(pv 0))]) "p",?_]
  k_dat lq "c"
  show#[_,rfl,rdG hp (gj T) #[_,rfl,rdG hp (uW T) #[_,_,rfl,rfl,?_]]];show#[_,rfl,l,rfl,#[_,.inl (.inl hb.l)],fun D hD=>?_];refine Li (K:=K) (a:=l) (xs:=ps.map fun p=>V.ref p.1) (fun i ys H2=>ys=((ps.take i).filter fun p=>decide (c-k<p.2.l)).map (fun p=>V.ref p.1)/\H2=upd H D (.lst ys)) #[by simp,rfl] ?_ ?_ ?_ ?_ ?_
  ·rintro i ys H2 hi ⟨rfl,rfl⟩;show#[.inl (.inl ((Same.new hD) _ _ hb.l)),aj,aJ ?_];rw[aD];have:=xR (fun p:Bp=>decide (c-k<p.2.l)) (ps.take i);rw[eX]at this;lia
  ·rintro i ys H2 x hx ⟨rfl,rfl⟩
   k_dat (z,hz,Ou,hx) "z"
   have ht:=(Same.new (o:=.lst (((ps.take i).filter fun p=>decide (c-k<p.2.l)).map (fun p=>V.ref p.1))) hD) _ _ (hb.t z (mv hz));show#[_,rfl,jm (.inl (.inl ht)) (v:=.int z.2.l) rfl #[_,rfl,_,_,rfl,rfl,_,rfl,dh (fun hc=>?_) (fun hc=>?_)]]
   ·have hc:c-k<z.2.l:=mS hc;show#[_,rfl,aj,?_,by rw[cA]];rw[jg,hz,vh,aR];show _=_++(([z]:List Bp).filter fun p=>decide (c-k<p.2.l)).map (fun p=>V.ref p.1);rw[adT (by simpa using hc)];rfl
   ·have hc:¬ c-k<z.2.l:=fun y=>hc (mP y);show#[aj,?_,rfl];rw[jg,hz,vh,aR];show _=_++(([z]:List Bp).filter fun p=>decide (c-k<p.2.l)).map (fun p=>V.ref p.1);rw[Xr (by simpa using hc)];simp
  ·rintro ys H2 ⟨rfl,rfl⟩;rw[aD,jC]
   k_dat (nwA hD,H3,sD,fH3) "n"
   have bD:Bxs H3 D (ps.filter fun p=>decide (c-k<p.2.l)):=#[fH3,fun z m=>sD _ _ (hb.t z (pG.mp m).1)];have hlen:=xR (fun p:Bp=>decide (c-k<p.2.l)) ps;show#[_,rfl,_,rfl,rdG (sD _ _ hp) (xK T) ?_];show#[D,r,_,rfl,bD,by lia,r0,r64,fun l' ps' H4 hl' e' b' s4=>?_];have hp4:=s4 _ _ (sD _ _ hp)
   k_dat (dx,hp4,T.uN,T.W9) "k"
   rw[Hu];have npl:∀b o,H4 b=some o->(∀C d fs,o≠.ins C d fs)->b≠p:=fun b o e n z=>by rw[z,hp4]at e;exact n _ _ _ (bC e).symm
   refine q l' ps' _ ?_ #[aj,#[by rw[ao (npl _ _ b'.l (by intro _ _ _ z;cases z))];exact b'.l,fun z m=>by rw[ao (npl _ _ (b'.t z m) (by intro _ _ _ z;cases z))];exact b'.t z m]] (fun b o e n=>by rw[ao n];exact s4 _ _ (sD _ _ e)) (sD.free hl');rw[e'];unfold gn bx;rw[List.filter_map];rfl
  ·exact fun σ H R R' hr h=>lN (mD (Bq (bW 0) (Ej _)) (bW 1)) σ H R R' hr h
  ·exact bW 0
def avj(A:Ad):Sp:=fun vs H Q _=>Ex8 fun p dx l r k c v ps=>KC (vs=[.ref p,.int v]) (Wn A H p dx l r k c ps) (ps.length<=400) (0<=r) (r<=64) (∀l' ps' H',bx ps'=gn r (c+1-k) (bx ps++[#[c+1,c+1,v]])->Wn A H' p dx l' r k (c+1) ps'->But p H H'->H l'=none->Q .non H')
theorem Vu(T:Tx K mg A):FnM P w mg base T.wQ CX0 5 (avj A):=by
 k_dat (T.wQ,T.wQ.ok,Vn) "f"
 ·obtain⟨p,dx,l,r,k,c,v,ps,rfl,hw,h400,r0,r64,q⟩:=h;show#[_,by (k_dat ([hdA],[cI ?_ T.uN (lV T) ?_],[]) "p"; k_dat iH "h"; k_dat zV "h"),?_];show#[_,rfl,rdG hw.o (gj T) #[_,_,rfl,rfl,_,rfl,p,_,dx,_,rfl,hw.o,T.uN,T.Ln,tb_g%,?_]];rw[pB]
  k_dat (nbA,H1,b1,w1) "n"
  have x1:=hw.b.but b1 hw.o;show#[_,rfl,p,dx,_,rfl,w1,Xi _ _ _ _ tb_g% tb_g% tb_g% tb_g%,?_];show#[_,rfl,rdG w1 (mX T) ?_];show#[_,rfl,rdG w1 (gj T) #[_,rfl,rdG w1 (gj T) #[_,rfl,tb_g%,fun t ht=>#[tb_g%,fun l1 hl1=>?_]]]];have s2:Same H1 (upd H1 t (bt #[c+1,c+1,v])):=Same.new ht;have t2:(upd H1 t (bt #[c+1,c+1,v])) t=some (bt #[c+1,c+1,v]):=aj;show rCat _ _ (upd (upd H1 t (bt #[c+1,c+1,v])) l1 (.lst [.ref t])) _;have hl1':(upd H1 t (bt #[c+1,c+1,v])) l1=none:=hl1;generalize upd H1 t (bt #[c+1,c+1,v])=H2 at s2 t2 hl1' ⊢
  k_dat (nwA hl1',H3,s3,t3) "n"
  show#[l,l1,_,_,rfl,rfl,s3 _ _ (s2 _ _ x1.l),t3,gK (aJ (by rw[aD];show ps.length+1<=1000;lia)),fun l2 hl2=>?_]
  k_dat (nwA hl2,H4,s4,fH4) "n"
  have s14:Same H1 H4:=s2.trans (s3.trans s4);have x4:Bxs H4 l2 (ps++[(t,#[c+1,c+1,v])]):=by
   show#[by rw[fH4,aR];rfl,fun z m=>?_]
   walk_at "e"
   ·exact s14 _ _ (x1.t z m)
   ·rw[bO.mp m];exact s4 _ _ (s3 _ _ t2)
  show#[p,dx,l2,l,r,k,c+1,_,rfl,s14 _ _ w1,x4,by rw[cu];show ps.length+1<=500;lia,r0,r64,fun l' ps' H5 e' w5 b5 n5=>?_];have bb:But p H H5:=fun b o e n=>b5 b o (s14 _ _ (b1 b o e n)) n;refine q l' ps' H5 (by rw[e'];unfold bx;rw[aR];rfl) w5 bb ?_;exact d9 b1 (s14.free n5) (fun z=>by rw[z,s14 _ _ w1]at n5;cases n5)
def aq2(A:Ad):Sp:=fun vs H Q _=>Ex8 fun p dx l r k c v ps=>KC (vs=[.ref p,.int v]) (Wn A H p dx l r k c ps) (ps.length<=400) (0<=r) (r<=64) (∀l' ps' H',bx ps'=gn r (c+v-k) (bx ps)->Wn A H' p dx l' r k (c+v) ps'->But p H H'->H l'=none->Q .non H')
theorem Az(T:Tx K mg A):FnM P w mg base T.tU CX0 5 (aq2 A):=by
 k_dat (T.tU,T.tU.ok,Tn) "f"
 ·obtain⟨p,dx,l,r,k,c,v,ps,rfl,hw,h400,r0,r64,q⟩:=h;show#[_,by k_dat ([],[cI ?_ T.uN (lV T) ?_],[]) "p",?_]
  k_dat (hw.o,gj,T.uN,T.Ln) "q"
  rw[pB]
  k_dat (nbA,H1,b1,w1) "n"
  have x1:=hw.b.but b1 hw.o;show#[_,rfl,p,dx,_,rfl,w1,Xi _ _ _ _ tb_g% tb_g% tb_g% tb_g%,?_];show#[_,rfl,rdG w1 (mX T) ?_];show#[p,dx,l,l,r,k,c+v,ps,rfl,w1,x1,by lia,r0,r64,fun l' ps' H5 e' w5 b5 n5=>?_];exact q l' ps' H5 e' w5 (fun b o e n=>b5 b o (b1 b o e n) n) (d9 b1 n5 (fun z=>by rw[z,w1]at n5;cases n5))
open MK
def aoZ:Sp:=fun vs H Q _=>∃n:Int,vs=[.int n]/\Q (.int (n*770093176312745717 % 1152921504606846976)) H
theorem ajC(T:Tx K mg A):FnK P w base T.S9 CX0 1 aoZ:=by
 k_dat (T.S9,T.S9.ok,ajy) "f"
 ·obtain⟨n,rfl,q⟩:=h;obtain⟨_,TX,TY⟩:=T.agV;obtain⟨_,ao0,ao1⟩:=T.aoR;show#[_,by k_dat ([],[],[gF (v:=.int 770093176312745717) rfl ao0 ao1,gF (v:=.int 1152921504606846976) rfl TX TY]) "p",?_];show#[_,rfl,_,_,rfl,rfl,dR tb_g% tb_g%,_,_,rfl,rfl,(by show(0:Int)<1152921504606846976;decide),q]
def uc(r:Int)(h:Nat):Prop:=(r=0/\h=60)\/Uz r h
theorem uc.uniq(a:uc r h)(b:uc r k):h=k:=by
 rcases a with⟨a,rfl⟩|a
 ·rcases b with⟨_,rfl⟩|b
  ·rfl
  ·exact mM a b.ne
 ·rcases b with⟨b,rfl⟩|b
  ·exact mM b a.ne
  ·exact a.uniq b
def avk:Sp:=fun vs H Q _=>∃n:Int,vs=[.int n]/\∀h:Nat,uc (n*770093176312745717 % 1152921504606846976) h->Q (.int h) H
def restOf(σ:St)(_:Hp):Nat:=match σ with
 |[_,some (.int x),_]=>x.toNat
 |_=>0
theorem aa2(T:Tx K mg A):FnK P w base T.agS CX0 2 avk:=by
 k_dat (T.agS,T.agS.ok,aia) "f"
 ·obtain⟨n,rfl,q⟩:=h;obtain⟨_,Nt,Nu⟩:=T.Nf;show#[_,by k_dat ([],[aia.nd,aB (ajC T) ?_],[gF (v:=.int 60) rfl Nt Nu]) "p",?_];show#[_,rfl,n,rfl,?_];have z0:=sS (n*770093176312745717) (show(1152921504606846976:Int)≠0 by decide);have z1:=sO (n*770093176312745717) (show(0:Int)<1152921504606846976 by decide);generalize n*770093176312745717 % 1152921504606846976=r at q z0 z1
  k_dat lqg "c"
  show#[_,rfl,rfl,_,rfl,dh (fun h=>?_) (fun h=>?_)]
  ·have e:V.int r=V.int 0:=mS h;exact q 60 (.inl #[V.int.inj e,rfl])
  ·have ne:r≠0:=fun z=>h (mP (mN V.int z));refine uE (fun σ H'=>Ex2 fun(x:Int) (i:Nat)=>mV (σ=[some (.int n),some (.int x),some (.int (i:Int))]) (To r x i) (H'=H)) restOf #[r,0,rfl,#[by simp,ne],rfl] ?_
    (by rintro σ H Q Q' hq ⟨v,e,i,j,e1,e2,h,sc,k,e3,q⟩;show#[v,e,i,j,e1,e2,h,sc,k,e3,hq _ _ q])
   rintro σ H' ⟨x,i,rfl,ht,rfl⟩
   k_dat (2,h) "o"
   ·k_dat lq "c"
    have e:x % 2=0:=V.int.inj (mS h);have hx:=ht.lt tb_g% z1;show#[_,rfl,_,_,rfl,rfl,#[tb_g%,tb_g%],_,rfl,_,_,rfl,rfl,#[x / 2,i+1,?_,ht.step e,rfl],?_]
    ·rw[show((i+1:Nat):Int)=(i:Int)+1 by lia];rfl
    ·show(x / 2).toNat<x.toNat;lia
   ·have e:¬ x % 2=0:=fun z=>h (mP (mN V.int z));show#[_,rfl,q i (.inr (ht.stop e))]
def df(au bB cQ dY:V):List (Str × V):=[("room",au),("arrivals",bB),("level",cQ),("kept",dY)]
theorem xM{K:aH}{A:Ad}(T:Tx K mg A):Fd K A.C'2 ("room" : Str) (df au bB cQ dY) au:=#[T.wK,T.ah1,rfl]
theorem iQ{K:aH}{A:Ad}(T:Tx K mg A):Fd K A.C'2 ("arrivals" : Str) (df au bB cQ dY) bB:=#[T.wK,T.SQ,rfl]
theorem ao2(au bB cQ dY:V):(df au bB cQ dY).lookup ("level" : Str)=some cQ:=by rfl
theorem gq{K:aH}{A:Ad}(T:Tx K mg A):Fd K A.C'2 ("level" : Str) (df au bB cQ dY) cQ:=#[T.wK,T.SX,rfl]
theorem mF{K:aH}{A:Ad}(T:Tx K mg A):Fd K A.C'2 ("kept" : Str) (df au bB cQ dY) dY:=#[T.wK,T.Xa,rfl]
theorem avl(au bB cQ dY:V):bZ "kept" dY (bZ "level" cQ (bZ "arrivals" bB (bZ "room" au [])))=df au bB cQ dY:=by
 unfold df
 walk_at "rec"
theorem oF(au bB cQ dY y:V):bZ "arrivals" y (df au bB cQ dY)=df au y cQ dY:=by
 unfold df
 walk_at "rec"
theorem xO(au bB cQ dY y:V):bZ "level" y (df au bB cQ dY)=df au bB y dY:=by
 unfold df
 walk_at "rec"
theorem Ly(au bB cQ dY y:V):bZ "kept" y (df au bB cQ dY)=df au bB cQ y:=by
 unfold df
 walk_at "rec"
theorem ao3(au bB cQ dY:V){m:Str}(Fb:¬ m = "room")(agY:¬ m = "arrivals")(aq3:¬ m = "level")(avm:¬ m = "kept"):(df au bB cQ dY).lookup m=none:=by
 unfold df;rw[cG Fb,cG agY,cG aq3,cG avm];rfl
def aq4(A:Ad):Sp:=fun vs H Q _=>Ex3 fun p dx r=>mV (vs=[.ref p,.int r]) (H p=some (.ins A.C'2 dx [])) (∀d H',H d=none->H' p=some (.ins A.C'2 dx (df (.int r) (.int 0) (.int 0) (.ref d)))->H' d=some (.lst [])->But p H H'->Q .non H')
theorem uX(T:Tx K mg A):FnM P w mg base T.nT CX0 1 (aq4 A):=by
 k_dat (T.nT,T.nT.ok,Ks) "f"
 ·obtain⟨p,dx,r,rfl,hp,q⟩:=h
  walk_at "t"
  show#[_,rfl,_,rfl,p,_,dx,[],rfl,hp,T.wK,T.ah1,tb_g%,?_]
  k_dat (dx,aj,T.wK,T.SQ) "k"
  k_dat (dx,aj,T.wK,T.SX) "k"
  rw[cA,cA];show#[tb_g%,fun d hd=>?_];have npd:p≠d:=fun z=>by rw[<-z,aj]at hd;cases hd
  rw[ao (aL npd)]at hd;show#[_,rfl,p,_,dx,_,rfl,(by rw[ao npd];exact aj),T.wK,T.Xa,tb_g%,?_];refine q d _ hd (Qt aj (by rw[avl])) (by rw[ao (aL npd),aj]) fun b o e hb=>?_;rwa[ao hb,ao (ak e hd),ao hb]
theorem aq5(m:uc (n*770093176312745717 % 1152921504606846976) h):h<=60:=by
 rcases m with⟨_,rfl⟩|m
 ·exact aK _
 ·have:=m.lt (sS _ tb_g%) (sO _ tb_g%);lia
theorem aic:∀n r,r.natAbs<=n->r≠0->∃h,Uz r h
 |0,r,h,h0=>mM (show r=0 by lia) h0
 |n+1,r,h,h0=>by
  by_cases e:r % 2=1
  ·show#[0,r,by simp,e]
  ·obtain⟨k,m,e1,e2⟩:=aic n (r / 2) tb_g% tb_g%;show#[k+1,m,?_,e2];rw[zA,<-Ds,<-e1];lia
theorem Ov(k:Int):∃h,uc (k*770093176312745717 % 1152921504606846976) h:=by
 by_cases e:k*770093176312745717 % 1152921504606846976=0
 ·show#[60,.inl #[e,rfl]]
 ·obtain⟨h,hh⟩:=aic _ _ (aK _) e;show#[h,.inr hh]
noncomputable def mkOf(k:Int):Int:=(Qq (Ov k):Nat)
theorem mk_eq(m:uc (k*770093176312745717 % 1152921504606846976) h):(h:Int)=mkOf k:=by
 rw[m.uniq (afl (Ov k))];rfl
theorem mk_le(k:Int):mkOf k<=60:=by
 obtain⟨h,m⟩:=Ov k;have:=aq5 m;rw[<-mk_eq m];lia
noncomputable def up(v:Int)(ks:List Int):List Int:=ks.filter fun z=>decide (v<=mkOf z)
theorem aie{v w:Int}(h:v<=w)(ks:List Int):up w (up v ks)=up w ks:=by
 unfold up;rw[List.filter_filter];apply List.filter_congr;intro x _;by_cases e:w<=mkOf x
 ·rw[mP e,mP (show v<=mkOf x by lia)];rfl
 ·rw[xj e];rfl
theorem avn(h:∀z∈ks,v<=mkOf z):up v ks=ks:=by
 unfold up;rw[aki];exact fun z hz=>mP (h z hz)
theorem aif(h:60<v)(ks:List Int):up v ks=[]:=by
 unfold up;rw[O2];intro z _ e;have:=mS e;have:=mk_le z;lia
theorem qW:z∈up v ks↔z∈ks/\v<=mkOf z:=by
 unfold up;rw[pG,decide_eq_true_iff]
def srt(ns:List Int):List Int:=ns.mergeSort fun a b=>decide (a<=b)
theorem jF:∀{xs ys:List Int},xs.Perm ys->xs.Pairwise (· <= ·)->ys.Pairwise (· <= ·)->xs=ys
 |[],ys,p,_,_=>by rw[ad4.mp p]
 |x::xs,[],p,_,_=>mM p (by simp)
 |x::xs,y::ys,p,h1,h2=>by
  have a1:=fW.mp h1;have a2:=fW.mp h2;have e:x=y:=by
   have m1:x∈y::ys:=p.mem_iff.mp bY;have m2:y∈x::xs:=p.mem_iff.mpr bY;rcases aP.mp m1 with z|z
   ·exact z
   ·rcases aP.mp m2 with z'|z'
    ·exact z'.symm
    ·exact alz (a1.1 y z') (a2.1 x z)
  subst e;rw[jF (afn p) a1.2 a2.2]
theorem fC(ns:List Int):(srt ns).Perm ns:=O4 _ _
theorem tM(ns:List Int):(srt ns).Pairwise (· <= ·):=by
 have:=Xq (le:=fun a b:Int=>decide (a<=b)) (fun a b c h1 h2=>by simp only[decide_eq_true_eq]at *; lia) (fun a b=>by simp only[Y6,decide_eq_true_eq];lia) ns;exact this.imp fun h=>mS h
theorem wF{ns ms:List Int}(p:ms.Perm ns)(h:ms.Pairwise (· <= ·)):ms=srt ns:=jF (p.trans (fC ns).symm) h (tM ns)
theorem Xj{ns ms:List Int}(p:ms.Perm ns):srt ms=srt ns:=jF ((fC ms).trans (p.trans (fC ns).symm)) (tM _) (tM _)
theorem agZ(v:Int)(ns:List Int):up v (srt ns)=srt (up v ns):=wF ((fC ns).filter _) ((tM ns).filter _)
theorem eG(ns:List Int):(srt ns).length=ns.length:=(fC ns).length_eq
theorem mC:z∈srt ns↔z∈ns:=(fC ns).mem_iff
def ajD:Sp:=fun vs H Q _=>Ex3 fun l v ks=>uU (vs=[.ref l,.int v]) (H l=some (.lst (ks.map V.int))) (ks.length<=900) (∀l' H',H l'=none->H' l'=some (.lst ((up v ks).map V.int))->Same H H'->Q (.ref l') H')
theorem Lz(T:Tx K mg A):FnK P w base T.Eo CX0 3 ajD:=by
 k_dat (T.Eo,T.Eo.ok,ada) "f"
 ·obtain⟨l,v,ks,rfl,hl,h500,q⟩:=h;show#[_,by k_dat ([dO],[],[jo [("level",~~~s+1)] ["thing","level"] [1] ?_ (fun _ _ _ _=>(Oo (Ga am3 (aB (aa2 T) (bV (pv 0) fO)) (pv 1) (Ea _)))) (fun _ _ _ _=>(pv 0))]) "p",?_];show#[_,rfl,l,rfl,#[_,.inl (.inl hl)],fun D hD=>?_];refine Li (K:=K) (a:=l) (xs:=ks.map V.int) (fun i ys H2=>ys=(up v (ks.take i)).map V.int/\H2=upd H D (.lst ys)) #[rfl,rfl] ?_ ?_ ?_ ?_ ?_
  ·rintro i ys H2 hi ⟨rfl,rfl⟩;show#[.inl (.inl ((Same.new hD) _ _ hl)),aj,aJ ?_];have:(up v (ks.take i)).length<=(ks.take i).length:=xR _ _;rw[eX]at this;rw[aD];lia
  ·rintro i ys H2 x hx ⟨rfl,rfl⟩
   k_dat (z,hz,int_at,hx) "z"
   show#[_,rfl,z,rfl,fun h hh=>#[_,rfl,_,_,rfl,rfl,_,rfl,dh (fun hc=>?_) (fun hc=>?_)]]
   ·have hc:v<=(h:Int):=mS hc;rw[mk_eq hh]at hc;show#[_,rfl,aj,?_,by rw[cA]];have e:up v (ks.take (i+1))=up v (ks.take i)++[z]:=by
     rw[jg,hz];unfold up;rw[vh];simp[hc]
    rw[e,aR];rfl
   ·have hc:¬ v<=(h:Int):=fun y=>hc (mP y);rw[mk_eq hh]at hc;show#[aj,?_,rfl];have e:up v (ks.take (i+1))=up v (ks.take i):=by
     rw[jg,hz];unfold up;rw[vh];simp[hc]
    rw[e]
  ·rintro ys H2 ⟨rfl,rfl⟩;rw[aD,jC];exact q D _ hD aj (Same.new hD)
  ·exact fun σ H R R' hr ⟨v,e,n,en,q⟩=>#[v,e,n,en,fun h m=>by
    obtain ⟨u,eu,i,j,ei,ej,k,ek,r⟩:=q h m;show#[u,eu,i,j,ei,ej,k,ek,hr _ _ r]]
  ·exact bW 0
structure Dn(A:Ad)(H:Hp)(p dx l:Addr)(r n v:Int)(ks:List Int):Prop where
 o:H p=some (.ins A.C'2 dx (df (.int r) (.int n) (.int v) (.ref l)))
 l:H l=some (.lst (ks.map V.int))
theorem Dn.same{A:Ad}{H H':Hp}{p dx l:Addr}{r n v:Int}{ks:List Int}(h:Dn A H p dx l r n v ks)(s:Same H H'):Dn A H' p dx l r n v ks:=#[s _ _ h.o,s _ _ h.l]
theorem Dn.but{A:Ad}{H H':Hp}{p dx l q C e:Addr}{fs:List (Str × V)}{r n v:Int}{ks:List Int}(h:Dn A H p dx l r n v ks)(s:But q H H')(hq:H q=some (.ins C e fs))(m:p≠q):Dn A H' p dx l r n v ks:=#[s _ _ h.o m,s _ _ h.l (fP h.l hq (by intro z;cases z))]
def Lvl(r v v':Int)(ks:List Int):Prop:=v<=v'/\((up v' ks).length:Int)<=r/\∀w,v<=w->w<v'->r<((up w ks).length:Int)
theorem Lvl.uniq(h:Lvl r v a ks)(g:Lvl r v b ks):a=b:=by
 rcases(show a<b\/a=b\/b<a by lia)with z|z|z
 ·have:=g.2.2 a h.1 z;have:=h.2.1;lia
 ·exact z
 ·have:=h.2.2 b g.1 z;have:=g.2.1;lia
theorem Lvl.le(h:Lvl r v v' ks)(r0:0<=r)(hv:v<=61):v'<=61:=by
 rcases(show v'<=61\/61<v' by lia)with z|z
 ·exact z
 ·have:=h.2.2 61 hv z;rw[aif tb_g%]at this;have e:(([]:List Int).length:Int)=0:=rfl;lia
def ajE(A:Ad):Sp:=fun vs H Q _=>Ex8 fun p dx l l0 r n v ks=>qT (vs=[.ref p,.ref l]) (H p=some (.ins A.C'2 dx (df (.int r) (.int n) (.int v) (.ref l0)))) (H l=some (.lst (ks.map V.int))) (ks.length<=63) (0<=r) (0<=v) (v<=61) ((∀z∈ks,v<=mkOf z)/\∀l' v' H',Lvl r v v' ks->Dn A H' p dx l' r n v' (up v' (srt ks))->But p H H'->H l'=none->Q .non H')
def lvV:Option V->Nat
 |some (.int v)=>(100-v).toNat
 |_=>0
def lvO:Option HO->Nat
 |some (.ins _ _ fs)=>lvV (fs.lookup ("level" : Str))
 |_=>0
def lvOf(σ:St)(H:Hp):Nat:=match σ with
 |some (.ref p)::_=>lvO (H p)
 |_=>0
theorem aii{p C dx:Addr}{a b c:V}{v:Int}{σ:St}{H:Hp}(h:H p=some (.ins C dx (df a b (.int v) c))):lvOf (some (.ref p)::σ) H=(100-v).toNat:=by
 show lvO (H p)=_;rw[h];show lvV ((df a b (.int v) c).lookup ("level" : Str))=_;rw[ao2];rfl
theorem qX(T:Tx K mg A):FnM P w mg base T.j7 CX0 4 (ajE A):=by
 k_dat (T.j7,T.j7.ok,qO) "f"
 ·obtain⟨p,dx,l,l0,r,n,v,ks,rfl,hp,hl,h900,r0,v0,v61,hv,q⟩:=h;show#[_,by k_dat ([],[qO.nd,dj (iV rfl) (by rfl) T.kE La ?_,aB (Lz T) ?_],[]) "p",?_];show#[_,rfl,.inr #[l,ks,rfl,.inl (.inl hl),by lia,fun l1 ms hl1 pm so=>?_]];have s1:Same H (upd H l1 (.lst (ms.map V.int))):=Same.new hl1;have f1:(upd H l1 (.lst (ms.map V.int))) l1=some (.lst (ms.map V.int)):=aj;obtain rfl:ms=srt ks:=wF pm so;have lm:=pm.length_eq;show afG _ _ _ [some (.ref p),some (.ref l),some (.ref l1)] (upd H l1 (.lst ((srt ks).map V.int)));generalize upd H l1 (.lst ((srt ks).map V.int))=H1 at s1 f1 ⊢;have e0:up v (srt ks)=srt ks:=avn fun z hz=>hv z (mC.mp hz);have lu:∀w,(up w (srt ks)).length=(up w ks).length:=fun w=>by rw[agZ,eG]
  refine uE (fun σ G=>Ex2 fun(l2:Addr) (w:Int)=>qT (σ=[some (.ref p),some (.ref l),some (.ref l2)]) (H l2=none) (G p=some (.ins A.C'2 dx (df (.int r) (.int n) (.int w) (.ref l0)))) (G l2=some (.lst ((up w (srt ks)).map V.int))) (But p H G) (v<=w) ((w<=61)) (∀u,v<=u->u<w->r<((up u ks).length:Int))) lvOf
   #[l1,v,rfl,hl1,s1 _ _ hp,by rwa[e0],s1.but p,cC _,v61,fun u a b=>by lia] ?_ ?_
  ·rintro σ G ⟨l2,w,rfl,nl2,gp,gl,bt,hvw,hw,hd⟩;have lms:(up w (srt ks)).length<=ks.length:=by rw[lu];exact xR _ _
   show#[_,rfl,cM (.inl (.inl gl)) #[_,rfl,rdG gp (xM T) #[_,_,rfl,rfl,_,rfl,dh (fun hc=>?_) (fun hc=>?_)]]]
   ·k_dat lq "c"
    have hc:r<(((up w (srt ks)).map V.int).length:Int):=mS hc;rw[aD]at hc;have hw60:w<=60:=by
     rcases(show w<=60\/60<w by lia)with z|z
     ·exact z
     ·rw[aif z]at hc;have e:(([]:List Int).length:Int)=0:=rfl;lia
    show#[_,rfl,rdG gp (gq T) #[_,_,rfl,rfl,_,rfl,p,_,dx,_,rfl,gp,T.wK,T.SX,tb_g%,?_]];rw[xO];have npl:l2≠p:=fP gl gp (by intro z;cases z);have b2:But p G (upd G p (.ins A.C'2 dx (df (.int r) (.int n) (.int (w+1)) (.ref l0)))):=But.upd;have o2:(upd G p (.ins A.C'2 dx (df (.int r) (.int n) (.int (w+1)) (.ref l0)))) p=some (.ins A.C'2 dx (df (.int r) (.int n) (.int (w+1)) (.ref l0))):=aj;have lw:=aii (σ:=[some (.ref l),some (.ref l2)]) gp;have gl2:=b2 _ _ gl npl;show#[_,rfl,_,rfl,rdG o2 (gq T) #[l2,w+1,_,rfl,gl2,by lia,fun l3 G3 nl3 gl3 s3=>?_]];have nl3':H l3=none:=by
     refine d9 (fun b o e m=>b2 b o (bt b o e m) m) nl3 fun z=>?_;rw[z,o2]at nl3;cases nl3
    rw[aie (show w<=w+1 by lia)]at gl3;show#[#[l3,w+1,rfl,nl3',s3 _ _ o2,gl3,fun b o e m=>s3 _ _ (b2 b o (bt b o e m) m),by lia,by lia,fun u a b=>?_],?_]
    ·rcases(show u<w\/u=w by lia)with z|z
     ·exact hd u a z
     ·rwa[z,<-lu]
    ·rw[lw];refine oM (Qa (aii (s3 _ _ o2))) ?_;lia
   ·have hc:¬ r<(((up w (srt ks)).map V.int).length:Int):=fun z=>hc (mP z);rw[aD]at hc;show#[_,rfl,_,rfl,p,_,dx,_,rfl,gp,T.wK,T.Xa,tb_g%,?_];rw[Ly];have npl:l2≠p:=fP gl gp (by intro z;cases z);refine q l2 w _ #[hvw,by rw[<-lu];lia,hd] #[aj,by rwa[ao npl]] (fun b o e m=>by rw[ao m];exact bt b o e m) nl2
  ·exact fun σ H Q Q' hq h=>lN (mD (Ro (iW (bW 2) uK)) (uL (bW 0))) σ H Q Q' hq h
theorem ao4(k:Int)(ks:List Int):inV (.int k) (ks.map V.int)=decide (k∈ks):=by
 induction ks with
 |nil=>rfl
 |cons x r ih =>
  show(eqV (.int x) (.int k) || inV (.int k) (r.map V.int))=_;rw[ih];show((x == k) || decide (k∈r))=decide (k∈x::r);by_cases e:k=x
  ·subst e;simp
  ·have:(x == k)=false:=by simp;exact fun z=>e z.symm
   rw[this];simp[e]
theorem ao5(ks:List Int):(ks.map V.int).all yc=true:=by
 rw[X4];intro x m;obtain⟨z,_,rfl⟩:=dH.mp m;rfl
def came(C:List Int)(k:Int):List Int:=if k∈C then C else C++[k]
theorem ade(C:List Int)(k:Int):C.length<=(came C k).length/\(came C k).length<=C.length+1:=by
 unfold came;split
 ·lia
 ·rw[cu];show C.length<=C.length+1/\_;show#[by lia,aK _]
theorem aq6{k w:Int}:(up w C).length<=(up w (came C k)).length:=by
 unfold came;split
 ·exact aK _
 ·unfold up;rw[vh,cu];lia
def oO(r v:Int)(C:List Int):Prop:=0<=v/\((up v C).length:Int)<=r/\∀w,0<=w->w<v->r<((up w C).length:Int)
theorem oO.lvl(h:oO r v C)(g:Lvl r v v' D)(hm:∀w,(up w C).length<=(up w D).length):oO r v' D:=by
 have:=h.1;have:=g.1;show#[by lia,g.2.1,fun w a b=>?_];rcases(show w<v\/v<=w by lia)with z|z
 ·have:=h.2.2 w a z;have:=hm w;lia
 ·exact g.2.2 w z b
theorem oO.le(h:oO r v C)(r0:0<=r):v<=61:=Lvl.le (ks:=C) (v:=0) #[h.1,h.2.1,h.2.2] r0 tb_g%
def avo(A:Ad):Sp:=fun vs H Q _=>Ex8 fun p dx l r n v k C=>Nr (vs=[.ref p,.int k]) (Dn A H p dx l r n v (srt (up v C))) (oO r v C) (C.length<=62) (0<=r) (r<=800) (∀l' v' H',Lvl r v v' (came C k)->Dn A H' p dx l' r (n+1) v' (srt (up v' (came C k)))->But p H H'->(l'=l\/H l'=none)->Q .non H')
theorem Nv(T:Tx K mg A):FnM P w mg base T.qz CX0 5 (avo A):=by
 k_dat (T.qz,T.qz.ok,Nh) "f"
 ·obtain⟨p,dx,l,r,n,v,k,C,rfl,hd,hL,h8,r0,r8,q⟩:=h;have v0:=hL.1;have v61:=hL.le r0;have hlen:(srt (up v C)).length<=62:=by have:(up v C).length<=C.length:=xR _ _;rw[eG];lia
  show#[_,by (k_dat ([hdA,auI],[aB (aa2 T) ?_,cI ?_ T.wK (qX T) ?_],[]) "p"; k_dat iH "h"; k_dat zV "h"),?_];show#[_,rfl,rdG hd.o (iQ T) #[_,_,rfl,rfl,_,rfl,p,_,dx,_,rfl,hd.o,T.wK,T.SQ,tb_g%,?_]];rw[oF]
  k_dat (nbA,H1,b1,fH1) "n"
  have d1:Dn A H1 p dx l r (n+1) v (srt (up v C)):=#[fH1,b1 _ _ hd.l (fP hd.l hd.o (by intro z;cases z))];show#[_,rfl,k,rfl,fun h hh=>#[_,rfl,rdG d1.o (gq T) #[_,_,rfl,rfl,_,rfl,dh (fun hc=>?_) (fun hc=>?_)]]]
  ·have hc:v<=(h:Int):=mS hc;rw[mk_eq hh]at hc;show#[_,rfl,_,rfl,rdG d1.o (mF T) (.inl #[l,_,rfl,.inl (.inl (.inl d1.l)),rfl,ao5 _,_,rfl,?_])];rw[mI rfl,ao4];by_cases m:k∈srt (up v C)
   ·rw[mP m];have ec:came C k=C:=by unfold came;rw[mI (qW.mp (mC.mp m)).1]
    rw[ec]at q;exact JH (q l v _ #[cC _,hL.2.1,fun w a b=>by lia] d1 b1 (.inl rfl))
   ·rw[xj m];have hk:k∉C:=fun z=>m (mC.mpr (qW.mpr #[z,hc]));have ec:came C k=C++[k]:=by unfold came;rw[mB hk]
    have eu:∀w,v<=w->up w (srt (up v C)++[k])=up w (srt (up v C))++up w [k]:=fun w _=>by unfold up;rw[vh]
    refine Uy #[_,rfl,p,dx,_,rfl,d1.o,ao3 _ _ _ _ tb_g% tb_g% tb_g% tb_g%,?_];show#[_,rfl,rdG d1.o (mF T) #[_,rfl,tb_g%,fun l1 hl1=>?_]];have s2:Same H1 (upd H1 l1 (.lst [.int k])):=Same.new hl1;show#[l,l1,_,_,rfl,rfl,s2 _ _ d1.l,aj,gK (aJ (by rw[aD];show(srt (up v C)).length+1<=1000;lia)),fun l2 hl2=>?_];have s3:Same H1 (upd (upd H1 l1 (.lst [.int k])) l2 (.lst ((srt (up v C)++[k]).map V.int))):=s2.trans (Same.new hl2);have f3:(upd (upd H1 l1 (.lst [.int k])) l2 (.lst ((srt (up v C)++[k]).map V.int))) l2=some (.lst ((srt (up v C)++[k]).map V.int)):=aj;rw[show(srt (up v C)).map V.int++[V.int k]=(srt (up v C)++[k]).map V.int by rw[aR];rfl];generalize upd (upd H1 l1 (.lst [.int k])) l2 (.lst ((srt (up v C)++[k]).map V.int))=H3 at s3 f3 ⊢;have d3:=d1.same s3;have pm:(srt (up v C)++[k]).Perm (up v (C++[k])):=by
     have:up v (C++[k])=up v C++[k]:=by unfold up;rw[vh];simp[hc]
     rw[this];exact(fC _).append_right _
    show#[p,dx,l2,l,r,n+1,v,_,rfl,d3.o,f3,by rw[cu];show(srt (up v C)).length+1<=63;lia,r0,v0,v61,(fun z hz=>(qW.mp (pm.mem_iff.mp hz)).2),fun l' v' H' lv dn bt nl=>?_];have el:∀w,v<=w->(up w (srt (up v C)++[k])).length=(up w (C++[k])).length:=fun w hw=>(pm.filter _).length_eq.trans (mN fX (aie hw _));have nl1:H1 l'=none:=s3.free nl;have nl0:H l'=none:=d9 b1 nl1 fun z=>by rw[z,d1.o]at nl1;cases nl1
    refine q l' v' H' ?_ ?_ (fun b o e m'=>bt b o (s3 _ _ (b1 b o e m')) m') (.inr nl0)
    ·rw[ec];show#[lv.1,by rw[<-el _ lv.1];exact lv.2.1,fun w a b=>by rw[<-el _ a];exact lv.2.2 w a b]
    ·rw[ec];have:up v' (srt (srt (up v C)++[k]))=srt (up v' (C++[k])):=by
      rw[Xj pm,agZ,aie lv.1]
     rwa[this]at dn
  ·have hc:¬ v<=(h:Int):=fun z=>hc (mP z);rw[mk_eq hh]at hc;have ew:∀w,v<=w->up w (came C k)=up w C:=fun w hw=>by
    unfold came;split
    ·rfl
    ·unfold up;rw[vh];simp[show ¬ w<=mkOf k by lia]
   refine JH (q l v _ #[cC _,by rw[ew v (cC _)];exact hL.2.1,fun w a b=>by lia] ?_ b1 (.inl rfl));rwa[ew v (cC _)]
def fl(r t l:Int)(d:Addr):List (Str × V):=[("room",.int r),("total",.int t),("lost",.int l),("counts",.ref d)]
theorem xP{K:aH}{A:Ad}(T:Tx K mg A):Fd K A.C'3 ("room" : Str) (fl r t l d) (.int r):=#[T.uO,T.ah2,rfl]
theorem uY{K:aH}{A:Ad}(T:Tx K mg A):Fd K A.C'3 ("total" : Str) (fl r t l d) (.int t):=#[T.uO,T.S6,rfl]
theorem Bt{K:aH}{A:Ad}(T:Tx K mg A):Fd K A.C'3 ("lost" : Str) (fl r t l d) (.int l):=#[T.uO,T.S7,rfl]
theorem jH{K:aH}{A:Ad}(T:Tx K mg A):Fd K A.C'3 ("counts" : Str) (fl r t l d) (.ref d):=#[T.uO,T.Xb,rfl]
theorem ne1:¬ (("room" : Str) = "total"):=by decide +kernel
theorem ne2:¬ (("room" : Str) = "lost"):=by decide +kernel
theorem ne3:¬ (("room" : Str) = "counts"):=by decide +kernel
theorem ne4:¬ (("total" : Str) = "lost"):=by decide +kernel
theorem ne5:¬ (("total" : Str) = "counts"):=by decide +kernel
theorem ne6:¬ (("lost" : Str) = "counts"):=by decide +kernel
theorem aa3(f:Str)(v:V)(r:List (Str × V))(u:V):bZ f v ((f,u)::r)=(f,v)::r:=by unfold bZ;rw[mI rfl]
theorem jx(h:¬ g=f)(v:V)(r:List (Str × V))(u:V):bZ f v ((g,u)::r)=(g,u)::bZ f v r:=by rw[bZ,mB h]
theorem avp(r t l:Int)(d:Addr):bZ "counts" (.ref d) (bZ "lost" (.int l) (bZ "total" (.int t) (bZ "room" (.int r) [])))=fl r t l d:=by
 unfold fl;rw [show bZ "room" (.int r) []=[(("room" : Str),V.int r)] from rfl,jx ne1,show bZ "total" (.int t) []=[(("total" : Str),V.int t)] from rfl,jx ne2,jx ne4,
  show bZ "lost" (.int l) []=[(("lost" : Str),V.int l)] from rfl,jx ne3,jx ne5,jx ne6]
 rfl
theorem aa4(r t l y:Int)(d:Addr):bZ "total" (.int y) (fl r t l d)=fl r y l d:=by
 unfold fl;rw[jx ne1,aa3]
theorem aa5(r t l y:Int)(d:Addr):bZ "lost" (.int y) (fl r t l d)=fl r t y d:=by
 unfold fl;rw[jx ne2,jx ne4,aa3]
theorem aij(r t l:Int)(d e:Addr):bZ "counts" (.ref e) (fl r t l d)=fl r t l e:=by
 unfold fl;rw[jx ne3,jx ne5,jx ne6,aa3]
theorem Ow{f m:Str}{v:V}{r:List (Str × V)}(h:¬ m=f):((f,v)::r).lookup m=r.lookup m:=by
 rw[ad2];rw[xk.mpr h]
theorem aik(r t l:Int)(d:Addr){m:Str}(h1:¬ m = "room")(h2:¬ m = "total")(h3:¬ m = "lost")(h4:¬ m = "counts"):(fl r t l d).lookup m=none:=by
 unfold fl;rw[Ow h1,Ow h2,Ow h3,Ow h4];rfl
def avq(A:Ad):Sp:=fun vs H Q _=>Ex3 fun p dx r=>mV (vs=[.ref p,.int r]) (H p=some (.ins A.C'3 dx [])) (∀d H',H d=none->H' p=some (.ins A.C'3 dx (fl r 0 0 d))->H' d=some (.dK (emb []))->But p H H'->Q .non H')
theorem uZ(T:Tx K mg A):FnM P w mg base T.nU CX0 1 (avq A):=by
 k_dat (T.nU,T.nU.ok,Ku) "f"
 ·obtain⟨p,dx,r,rfl,hp,k⟩:=h;show#[_,by k_dat ([abW],[],[]) "p",?_];show#[_,rfl,_,rfl,p,_,dx,[],rfl,hp,T.uO,T.ah2,tb_g%,?_]
  k_dat (dx,aj,T.uO,T.S6) "k"
  k_dat (dx,aj,T.uO,T.S7) "k"
  rw[cA,cA];intro d hd;have npd:p≠d:=fun z=>by rw[<-z,aj]at hd;cases hd
  rw[ao (aL npd)]at hd;show#[_,rfl,p,_,dx,_,rfl,(by rw[ao npd];exact aj),T.uO,T.Xb,tb_g%,?_];refine k d _ hd (Qt aj (by rw[avp])) (by rw[ao (aL npd),aj];rfl) fun b o e hb=>?_;rwa[ao hb,ao (ak e hd),ao hb]
def Xk(room:Nat)(c:Tab)(cut:Int):Prop:=if c.length<=room then cut=0 else IsCut room c cut
theorem Xk.avr{cut:Int}(h:Xk room c cut)(hp:∀p∈c,1<=p.2):eF room c (cN c cut) cut:=by
 unfold Xk at h;unfold eF;by_cases e:c.length<=room
 ·rw[mI e]at h ⊢; show#[h,by rw[h,anz hp]]
 ·rw[mB e]at h ⊢; show#[h,rfl]
def spCut:Sp:=fun vs H Q _=>Ex3 fun(g:Addr) (c:Tab) (room:Nat)=>uU (vs=[.ref g,.int room]) (H g=some (.dK (emb c))) (c.length<64) (∀(cut:Int)(H':Hp),Xk room c cut->Same H H'->Q (.int cut) H')
theorem ajF(T:Tx K mg A):FnK P w base T.Tc CX0 1 spCut:=by
 k_dat (T.Tc,T.Tc.ok,Xe) "f"
 ·obtain⟨g,c,room,rfl,hg,h64,q⟩:=h;show#[_,by k_dat ([],[Xe.nd,aiV T.kE ?_ ⟨rfl,rfl⟩ rfl],[]) "p",?_];show#[_,rfl,auK (.inl hg) #[_,rfl,_,_,rfl,rfl,_,rfl,dh (fun h=>?_) (fun h=>?_)]]
  ·have h':((emb c).length:Int)<=room:=mS h;rw[wB]at h';exact q 0 H (by unfold Xk;rw[mI tb_g%]) (Same.refl H)
  ·have h':¬ ((emb c).length:Int)<=room:=fun z=>h (mP z);rw[wB]at h';show#[_,rfl,g,emb c,vals c,rfl,.inl hg,anA c,(by unfold vals;rwa[aD]),fun l d hl hp hs=>?_];have hlen:d.length=c.length:=by rw[hp.length_eq];unfold vals;rw[aD]
   have e:d[room]? = some d[room]:=eE tb_g%;show#[_,rfl,_,rfl,dF (.inl (.inl aj)) (v:=.int d[room]) (fu (by rw[cP,e];rfl)) (q _ _ ?_ (Same.new hl))];unfold Xk;rw[mB tb_g%];show#[d,hp,hs,e]
def ajG:Sp:=fun vs H Q _=>Ex3 fun g c cut=>uV (vs=[.ref g,.int cut]) (H g=some (.dK (emb c))) ((keys c).Nodup) (c.length<=1000) (∀d H',H d=none->H' d=some (.dK (emb (cN c cut)))->Same H H'->Q (.ref d) H')
theorem adf(c:Tab)(p:Int × Int)(cut:Int):cN (c++[p]) cut=if cut<p.2 then cN c cut++[(p.1,p.2-cut)]else cN c cut:=by
 unfold cN;rw[vh,aR];by_cases h:cut<p.2
 ·rw[mI h];simp[h]
 ·rw[mB h];simp[h]
theorem take_snoc{c:Tab}{i:Nat}{p:Int × Int}(h:c[i]? = some p):c.take (i+1)=c.take i++[p]:=by
 rw[jg,h];rfl
theorem aq7{cut:Int}(hn:(keys c).Nodup)(h:c[i]? = some p)(hc:cut<p.2):put (cN (c.take i) cut) p.1 (p.2-cut)=cN (c.take (i+1)) cut:=by
 rw[take_snoc h,adf,mI hc];refine Gg fun z=>?_;have z1:=wz z;have e:keys (c.take (i+1))=keys (c.take i)++[p.1]:=by rw[take_snoc h];unfold keys;rw[aR];rfl
 have hn':(keys (c.take (i+1))).Nodup:=amt (amy _ (ad0 _ _)) hn;rw[e,Ii]at hn';exact hn'.2.2 p.1 z1 p.1 (by simp) rfl
theorem ag0(T:Tx K mg A):FnK P w base T.Kd CX0 1 ajG:=by
 k_dat (T.Kd,T.Kd.ok,Tq) "f"
 ·obtain⟨g,c,cut,rfl,hg,hn,hl,q⟩:=h;show#[_,by k_dat ([abW],[Tq.nd,ahG Zz rfl ?_ ⟨rfl,rfl⟩ ?_ ?_],[]) "p",?_]
  k_dat lq "c"
  intro d hd;have ngd:g≠d:=ak hg hd;have hg1:(upd H d (.dK [])) g=some (.dK (emb c)):=by rwa[ao ngd]
  show#[_,rfl,g,emb c,rfl,hg1,fun o wm=>Wq (fun i σ H2=>Ex2 fun (x y:Option V)=>uU (σ=[some (.ref g),some (.int cut),some (.ref d),x,y]) (H2 g=some (.frz o (.dK (emb c)))) (H2 d=some (.dK (emb (cN (c.take i) cut)))) ((∀ b u,H b=some u->b≠g->H2 b=some u)))
   #[none,none,rfl,aj,by rw [ao (aL ngd),aj];rfl,fun b u e hb=>by rw [ao hb,ao (ak e hd)];exact e] (fun i σ H2 ⟨_,_,_,h,_,_⟩=>h) ?_ ?_]
  ·rintro i p t σ H2 hi ⟨x,y,rfl,f1,f2,f3⟩ ht
   k_dat (pr,hpr,anB,hi) "z"
   have ngt:g≠t:=ak f1 ht;have ndt:d≠t:=ak f2 ht;have f1':(upd H2 t (.tup [.int pr.1,.int pr.2])) g=some (.frz o (.dK (emb c))):=by rwa[ao ngt]
   have f2':(upd H2 t (.tup [.int pr.1,.int pr.2])) d=some (.dK (emb (cN (c.take i) cut))):=by rwa[ao ndt]
   have f3':∀b u,H b=some u->b≠g->(upd H2 t (.tup [.int pr.1,.int pr.2])) b=some u:=fun b u e hb=>by
    have:=f3 b u e hb;rwa[ao (ak this ht)]
   show#[t,_,rfl,.inl (.inl aj),rfl,_,_,rfl,_,_,rfl,rfl,?_]
   k_dat ld "c"
   show#[_,rfl,_,rfl,_,_,rfl,rfl,_,rfl,dh (fun h=>?_) (fun h=>?_)]
   ·have hc:cut<pr.2:=mS h;have hz:(emb (cN (c.take i) cut)).length<sizeLine:=by
     rw[wB];have:=aqg (c.take i) cut;rw[eX]at this;exact aJ tb_g%
    show#[_,rfl,_,rfl,_,_,rfl,rfl,_,rfl,_,rfl,af2 f2' hz ?_];rw[Gk,aq7 hn hpr hc];show#[_,_,rfl,by rwa[ao ngd],aj,fun b u e hb=>?_];have nb:b≠d:=ak e hd;rw[ao nb];exact f3' b u e hb
   ·have hc:¬ cut<pr.2:=fun z=>h (mP z);show#[_,_,rfl,f1',?_,f3'];rwa[take_snoc hpr,adf,mB hc]
  ·rintro σ H2 ⟨x,y,rfl,f1,f2,f3⟩;rw[wB,jC]at f2;show#[g,emb c,o,wm,f1,_,rfl,q d _ hd ?_ fun b u e=>?_]
   ·rwa[ao (aL ngd)]
   ·by_cases hb:b=g
    ·subst hb;rw[aj,<-e,hg]
    ·rw[ao hb];exact f3 b u e hb
def spFit(A:Ad):Sp:=fun vs H Q _=>Ex8 fun(p dx g d:Addr) (room:Nat) (t l:Int) (c:Tab)=>Nr (vs=[.ref p,.ref g]) (H p=some (.ins A.C'3 dx (fl room t l d))) (H g=some (.dK (emb c))) ((keys c).Nodup) ((∀p∈c,1<=p.2)) (c.length<64) (∀(d':Addr)(c':Tab)(cut:Int)(H':Hp),H d'=none->eF room c c' cut->H' p=some (.ins A.C'3 dx (fl room t (l+cut) d'))->H' d'=some (.dK (emb c'))->But p H H'->Q .non H')
theorem yF(T:Tx K mg A):FnM P w mg base T.qC CX0 2 (spFit A):=by
 k_dat (T.qC,T.qC.ok,yu) "f"
 ·obtain⟨p,dx,g,d,room,t,l,c,rfl,hp,hg,hn,pos,h64,q⟩:=h;show#[_,by k_dat ([],[yu.nd,aB (ajF T) ?_,aB (ag0 T) ?_],[]) "p",?_]
  k_dat lq "c"
  show#[_,rfl,_,rfl,rdG hp (xP T) #[g,c,room,rfl,hg,h64,fun cut H1 hc s1=>?_]];show#[_,rfl,_,rfl,g,c,cut,rfl,s1 _ _ hg,hn,by lia,fun d' H2 hd' e2 s2=>?_];have hp2:=s2 _ _ (s1 _ _ hp);have npd:p≠d':=ak (s1 _ _ hp) hd'
  k_dat (dx,hp2,T.uO,T.Xb) "k"
  rw[aij]
  k_dat (aj,Bt,T.uO,T.S7) "q"
  rw[aa5,cA];refine q d' (cN c cut) cut _ (s1.free hd') (hc.avr pos) aj (by rwa[ao (aL npd)]) fun b o e hb=>?_;rw[ao hb];exact s2 _ _ (s1 _ _ e)
def spAdd(A:Ad):Sp:=fun vs H Q _=>Ex8 fun(p dx d:Addr) (room:Nat) (t l k v:Int)=>∃(c:Tab),qT (vs=[.ref p,.int k,.int v]) (H p=some (.ins A.C'3 dx (fl room t l d))) (H d=some (.dK (emb c))) ((keys c).Nodup) ((∀p∈c,1<=p.2)) (1<=v) (c.length<63) (∀(d':Addr)(c':Tab)(cut:Int)(H':Hp),H d'=none->eF room (put c k (low c k+v)) c' cut->H' p=some (.ins A.C'3 dx (fl room (t+v) (l+cut) d'))->H' d'=some (.dK (emb c'))->But p H H'->Q .non H')
theorem yG(T:Tx K mg A):FnM P w mg base T.qD CX0 3 (spAdd A):=by
 k_dat (T.qD,T.qD.ok,yw) "f"
 ·obtain⟨p,dx,d,room,t,l,k,v,c,rfl,hp,hd,hn,pos,hv,h63,q⟩:=h;have npd:p≠d:=fP hp hd (by intro z;cases z);show#[_,by k_dat ([],[yw.nd,gO QX (by rfl) T.agU alX ?_,abX tb_g% ?_ ?_ ?_ ⟨rfl,rfl,rfl,rfl⟩,cI ?_ T.uO (yF T) ?_],[]) "p",?_]
  k_dat (hp,uY,T.uO,T.S6) "q"
  rw[aa4]
  k_dat lqn "c"
  have hd1:(upd H p (.ins A.C'3 dx (fl room (t+v) l d))) d=some (.dK (emb c)):=by rwa[ao (aL npd)]
  show#[_,rfl,rdG aj (jH T) #[d,emb c,rfl,.inl hd1,fun g hg=>?_]];have ngp:p≠g:=fun z=>by rw[<-z,aj]at hg;cases hg
  have hg0:H g=none:=by rwa[ao (aL ngp)]at hg
  show#[_,rfl,g,rfl,.inl #[emb c,.inl aj],_,rfl,_,arQ (.inl aj),?_];rw[ahK];show#[_,rfl,_,_,rfl,rfl,_,rfl,_,rfl,af2 aj (by rw[wB];exact aJ tb_g%) ?_];rw[Gk,cA];have hp2:∀o,(upd (upd H p (.ins A.C'3 dx (fl room (t+v) l d))) g o) p=some (.ins A.C'3 dx (fl room (t+v) l d)):=fun o=>by rw[ao ngp];exact aj
  show#[_,rfl,p,dx,_,rfl,hp2 _,aik _ _ _ _ tb_g% tb_g% tb_g% tb_g%,_,rfl,p,dx,g,d,room,t+v,l,_,rfl,hp2 _,aj,Z9 hn _ _,aae pos (by have:=wu pos k;lia),?_,fun d' c' cut H' e1 e2 e3 e4 e5=>?_]
  ·have:=aac c k (low c k+v);lia
  ·have ngd:g≠d':=fun z=>by rw[<-z,aj]at e1;cases e1
   have npd':p≠d':=fun z=>by rw[<-z,hp2]at e1;cases e1
   rw[ao (aL ngd),ao (aL npd')]at e1;refine q d' c' cut H' e1 e2 e3 e4 fun b o e hb=>e5 b o ?_ hb;rwa[ao (ak e hg0),ao hb]
def bf(aQ lW:V):List (Str × V):=[("span",aQ),("sums",lW)]
theorem Ox{K:aH}{A:Ad}(T:Tx K mg A):Fd K A.C'4 ("span" : Str) (bf aQ lW) aQ:=#[T.Vk,T.ah3,rfl]
theorem Bu{K:aH}{A:Ad}(T:Tx K mg A):Fd K A.C'4 ("sums" : Str) (bf aQ lW) lW:=#[T.Vk,T.Lp,rfl]
theorem avs(aQ lW:V):bZ "sums" lW (bZ "span" aQ [])=bf aQ lW:=by
 unfold bf
 walk_at "rec"
theorem rJ(aQ lW y:V):bZ "sums" y (bf aQ lW)=bf aQ y:=by
 unfold bf
 walk_at "rec"
theorem arX(aQ lW:V){m:Str}(ag1:¬ m = "span")(avt:¬ m = "sums"):(bf aQ lW).lookup m=none:=by
 unfold bf;rw[cG ag1,cG avt];rfl
structure Q4 where
 a:Int
 b:Int
 c:Int
 d:Int
def L4(q:Q4):List Int:=[q.a,q.b,q.c,q.d]
def addQ(q p:Q4):Q4:=#[q.a+p.a,q.b+p.b,q.c+p.c,q.d+p.d]
def pwQ(t w:Int):Q4:=#[w,w*t,w*t*t,w*t*t*t]
def ail:Q4:=#[0,0,0,0]
def ao6(t w:Int):Nat->Int
 |0=>w
 |n+1=>ao6 t w n*t
structure Bn(A:Ad)(H:Hp)(p dx l:Addr)(s:Int)(q:Q4):Prop where
 o:H p=some (.ins A.C'4 dx (bf (.int s) (.ref l)))
 l:H l=some (.lst ((L4 q).map V.int))
theorem Bn.same{A:Ad}{H H':Hp}{p dx l:Addr}{s:Int}{q:Q4}(h:Bn A H p dx l s q)(z:Same H H'):Bn A H' p dx l s q:=#[z _ _ h.o,z _ _ h.l]
theorem Bn.but{A:Ad}{H H':Hp}{p dx l x C e:Addr}{fs:List (Str × V)}{s:Int}{q:Q4}(h:Bn A H p dx l s q)(z:But x H H')(hq:H x=some (.ins C e fs))(m:p≠x):Bn A H' p dx l s q:=#[z _ _ h.o m,z _ _ h.l (fP h.l hq (by intro z;cases z))]
def ajH:Sp:=fun vs H Q _=>Ex4 fun l t w q=>uV (vs=[.ref l,.int t,.int w]) (H l=some (.lst ((L4 q).map V.int))) (0<=t) (t<2 ^ 64) (∀l' H',H l'=none->H' l'=some (.lst ((L4 (addQ q (pwQ t w))).map V.int))->Same H H'->Q (.ref l') H')
theorem lY(h:((L4 q).map V.int)[i]? = some x):(i=0/\x=.int q.a)\/(i=1/\x=.int q.b)\/(i=2/\x=.int q.c)\/(i=3/\x=.int q.d):=by
 match i,h with
 |0,h=>exact .inl #[rfl,(bC h).symm]
 |1,h=>exact .inr (.inl #[rfl,(bC h).symm])
 |2,h=>exact .inr (.inr (.inl #[rfl,(bC h).symm]))
 |3,h=>exact .inr (.inr (.inr #[rfl,(bC h).symm]))
 |n+4,h=>simp[L4]at h
theorem LC(T:Tx K mg A):FnK P w base T.Er CX0 1 ajH:=by
 k_dat (T.Er,T.Er.ok,Lq) "f"
 ·obtain⟨l,t,w,q,rfl,hl,t0,t1,k⟩:=h;show#[_,by k_dat ([dO],[Lq.nd],[]) "p",?_]
  k_dat lq "c"
  show#[tb_g%,fun D hD=>?_]
  k_dat lqg "c"
  show#[_,rfl,?_];have sD:Same H (upd H D (.lst [])):=Same.new hD;show#[_,rfl,l,rfl,#[_,.inl (.inl (sD _ _ hl))],jX (K:=K) (a:=l) (xs:=(L4 q).map V.int) (fun i σ H2=>∃x,mV (σ=[some (.ref l),some (.int t),some (.int w),some (.ref D),some (.int (ao6 t w i)),x]) (H2 D=some (.lst (((L4 (addQ q (pwQ t w))).take i).map V.int))) (Same H H2)) #[none,rfl,aj,sD] (fun i σ H2 _ ⟨_,_,_,s⟩=>.inl (.inl (s _ _ hl))) ?_ ?_]
  ·rintro i y σ H2 hi ⟨x,rfl,f,s2⟩;have hz:∀n:Nat,n<=4->(((L4 (addQ q (pwQ t w))).take n).map V.int).length<sizeLine:=fun n hn=>aJ (by rw[aD,eX];lia);have keep:∀L b o,H b=some o->(upd H2 D L) b=some o:=fun L b o e=>by rw[ao (ak e hD)];exact s2 _ _ e
   rcases lY hi with⟨rfl,rfl⟩|⟨rfl,rfl⟩|⟨rfl,rfl⟩|⟨rfl,rfl⟩
   ·show#[_,rfl,.inl #[rfl,_,.inl (.inl f)],_,rfl,_,rfl,_,_,rfl,rfl,D,_,_,rfl,rfl,f,hz 0 tb_g%,?_];show#[_,rfl,_,rfl,_,_,rfl,rfl,dR tb_g% t1,_,rfl,aj,keep _]
   ·show#[_,rfl,.inl #[rfl,_,.inl (.inl f)],_,rfl,_,rfl,_,_,rfl,rfl,D,_,_,rfl,rfl,f,hz 1 tb_g%,?_];show#[_,rfl,_,rfl,_,_,rfl,rfl,dR tb_g% t1,_,rfl,aj,keep _]
   ·show#[_,rfl,.inl #[rfl,_,.inl (.inl f)],_,rfl,_,rfl,_,_,rfl,rfl,D,_,_,rfl,rfl,f,hz 2 tb_g%,?_];show#[_,rfl,_,rfl,_,_,rfl,rfl,dR tb_g% t1,_,rfl,aj,keep _]
   ·show#[_,rfl,.inl #[rfl,_,.inl (.inl f)],_,rfl,_,rfl,_,_,rfl,rfl,D,_,_,rfl,rfl,f,hz 3 tb_g%,?_];show#[_,rfl,_,rfl,_,_,rfl,rfl,dR tb_g% t1,_,rfl,aj,keep _]
  ·rintro σ H2 ⟨x,rfl,f,s2⟩;show#[_,rfl,k D H2 hD f s2]
def aq8(A:Ad):Sp:=fun vs H Q _=>Ex3 fun p dx s=>mV (vs=[.ref p,.int s]) (H p=some (.ins A.C'4 dx [])) (∀d H',H d=none->Bn A H' p dx d s ail->But p H H'->Q .non H')
theorem yH(T:Tx K mg A):FnM P w mg base T.qF CX0 1 (aq8 A):=by
 k_dat (T.qF,T.qF.ok,Ni) "f"
 ·obtain⟨p,dx,sp,rfl,hp,q⟩:=h
  walk_at "t"
  show#[_,rfl,_,rfl,p,_,dx,[],rfl,hp,T.Vk,T.ah3,tb_g%,?_];show#[tb_g%,fun d hd=>?_];have npd:p≠d:=fun z=>by rw[<-z,aj]at hd;cases hd
  rw[ao (aL npd)]at hd;show#[_,rfl,p,_,dx,_,rfl,(by rw[ao npd];exact aj),T.Vk,T.Lp,tb_g%,?_];refine q d _ hd #[Qt aj (by rw[avs]),by rw[ao (aL npd),aj];rfl] fun b o e hb=>?_;rwa[ao hb,ao (ak e hd),ao hb]
def ao7(A:Ad)(sg:Bool):Sp:=fun vs H Q _=>Ex7 fun p dx l s t w q=>uV (vs=[.ref p,.int t,.int w]) (Bn A H p dx l s q) (0<=t) (t<2 ^ 64) (∀l' H',Bn A H' p dx l' s (addQ q (pwQ t (if sg then -w else w)))->But p H H'->H l'=none->Q .non H')
theorem T3(T:Tx K mg A):FnM P w mg base T.tV CX0 2 (ao7 A false):=by
 k_dat (T.tV,T.tV.ok,Tt) "f"
 ·obtain⟨p,dx,l,sp,t,w,q,rfl,hb,t0,t1,k⟩:=h;show#[_,by k_dat ([],[aB (LC T) ?_],[]) "p",?_];show#[_,rfl,rdG hb.o (Bu T) #[_,rfl,_,rfl,l,t,w,q,rfl,hb.l,t0,t1,fun l' H1 nl' f1 s1=>?_]];show#[_,rfl,p,_,dx,_,rfl,s1 _ _ hb.o,T.Vk,T.Lp,tb_g%,?_];rw[rJ];have npl:l'≠p:=aL (ak hb.o nl');exact k l' _ #[aj,by rwa[ao npl]] (fun b o e m=>by rw[ao m];exact s1 _ _ e) nl'
theorem Nx(T:Tx K mg A):FnM P w mg base T.qG CX0 2 (ao7 A true):=by
 k_dat (T.qG,T.qG.ok,Nj) "f"
 ·obtain⟨p,dx,l,sp,t,w,q,rfl,hb,t0,t1,k⟩:=h;show#[_,by k_dat ([],[aB (LC T) ?_],[]) "p",?_];show#[_,rfl,rdG hb.o (Bu T) #[_,rfl,_,rfl,_,rfl,l,t,-w,q,rfl,hb.l,t0,t1,fun l' H1 nl' f1 s1=>?_]];show#[_,rfl,p,_,dx,_,rfl,s1 _ _ hb.o,T.Vk,T.Lp,tb_g%,?_];rw[rJ];have npl:l'≠p:=aL (ak hb.o nl');exact k l' _ #[aj,by rwa[ao npl]] (fun b o e m=>by rw[ao m];exact s1 _ _ e) nl'
def kf(au aG aQ bK bL fj bM aO bN aM:V):List (Str × V):=[("room",au),("reach",aG),("span",aQ),("came",bK),("went",bL),("up",fj),("down",bM),("window",aO),("seen",bN),("balance",aM)]
theorem Hv{K:aH}{A:Ad}(T:Tx K mg A):Fd K A.C'5 ("room" : Str) (kf au aG aQ bK bL fj bM aO bN aM) au:=#[T.jK,T.ah4,rfl]
theorem Bb{K:aH}{A:Ad}(T:Tx K mg A):Fd K A.C'5 ("reach" : Str) (kf au aG aQ bK bL fj bM aO bN aM) aG:=#[T.jK,T.ah5,rfl]
theorem xQ{K:aH}{A:Ad}(T:Tx K mg A):Fd K A.C'5 ("span" : Str) (kf au aG aQ bK bL fj bM aO bN aM) aQ:=#[T.jK,T.ah6,rfl]
theorem Bv{K:aH}{A:Ad}(T:Tx K mg A):Fd K A.C'5 ("came" : Str) (kf au aG aQ bK bL fj bM aO bN aM) bK:=#[T.jK,T.ac0,rfl]
theorem Bw{K:aH}{A:Ad}(T:Tx K mg A):Fd K A.C'5 ("went" : Str) (kf au aG aQ bK bL fj bM aO bN aM) bL:=#[T.jK,T.ac1,rfl]
theorem Xl{K:aH}{A:Ad}(T:Tx K mg A):Fd K A.C'5 ("up" : Str) (kf au aG aQ bK bL fj bM aO bN aM) fj:=#[T.jK,T.ac2,rfl]
theorem Bx{K:aH}{A:Ad}(T:Tx K mg A):Fd K A.C'5 ("down" : Str) (kf au aG aQ bK bL fj bM aO bN aM) bM:=#[T.jK,T.ac3,rfl]
theorem jJ{K:aH}{A:Ad}(T:Tx K mg A):Fd K A.C'5 ("window" : Str) (kf au aG aQ bK bL fj bM aO bN aM) aO:=#[T.jK,T.ac4,rfl]
theorem rK{K:aH}{A:Ad}(T:Tx K mg A):Fd K A.C'5 ("seen" : Str) (kf au aG aQ bK bL fj bM aO bN aM) bN:=#[T.jK,T.ac5,rfl]
theorem iR{K:aH}{A:Ad}(T:Tx K mg A):Fd K A.C'5 ("balance" : Str) (kf au aG aQ bK bL fj bM aO bN aM) aM:=#[T.jK,T.ac6,rfl]
theorem avu(au aG aQ bK bL fj bM aO bN aM:V):bZ "balance" aM (bZ "seen" bN (bZ "window" aO (bZ "down" bM (bZ "up" fj (bZ "went" bL (bZ "came" bK (bZ "span" aQ (bZ "reach" aG (bZ "room" au [])))))))))=kf au aG aQ bK bL fj bM aO bN aM:=by
 unfold kf
 walk_at "rec"
theorem adg(au aG aQ bK bL fj bM aO bN aM y:V):bZ "came" y (kf au aG aQ bK bL fj bM aO bN aM)=kf au aG aQ y bL fj bM aO bN aM:=by
 unfold kf
 walk_at "rec"
theorem adh(au aG aQ bK bL fj bM aO bN aM y:V):bZ "went" y (kf au aG aQ bK bL fj bM aO bN aM)=kf au aG aQ bK y fj bM aO bN aM:=by
 unfold kf
 walk_at "rec"
theorem ajI(au aG aQ bK bL fj bM aO bN aM y:V):bZ "up" y (kf au aG aQ bK bL fj bM aO bN aM)=kf au aG aQ bK bL y bM aO bN aM:=by
 unfold kf
 walk_at "rec"
theorem adi(au aG aQ bK bL fj bM aO bN aM y:V):bZ "down" y (kf au aG aQ bK bL fj bM aO bN aM)=kf au aG aQ bK bL fj y aO bN aM:=by
 unfold kf
 walk_at "rec"
theorem Vv(au aG aQ bK bL fj bM aO bN aM y:V):bZ "window" y (kf au aG aQ bK bL fj bM aO bN aM)=kf au aG aQ bK bL fj bM y bN aM:=by
 unfold kf
 walk_at "rec"
theorem adk(au aG aQ bK bL fj bM aO bN aM y:V):bZ "seen" y (kf au aG aQ bK bL fj bM aO bN aM)=kf au aG aQ bK bL fj bM aO y aM:=by
 unfold kf
 walk_at "rec"
theorem T4(au aG aQ bK bL fj bM aO bN aM y:V):bZ "balance" y (kf au aG aQ bK bL fj bM aO bN aM)=kf au aG aQ bK bL fj bM aO bN y:=by
 unfold kf
 walk_at "rec"
theorem kfN(h:m∉[("room" : Str),("reach" : Str),("span" : Str),("came" : Str),("went" : Str),("up" : Str),("down" : Str),("window" : Str),("seen" : Str),("balance" : Str)]):(kf au aG aQ bK bL fj bM aO bN aM).lookup m=none:=by
 simp only[aP,jc,or_false,not_or]at h;obtain⟨Fb,aa1,ag1,avv,avw,h_up,avx,ao8,avy,ajJ⟩:=h;unfold kf;rw[cG Fb,cG aa1,cG ag1,cG avv,cG avw,cG h_up,cG avx,cG ao8,cG avy,cG ajJ];rfl
structure Fq where
 (p dx d:Addr) (t l:Int) (c:Tab)
structure Rs where
 (dx a:Addr) (bs:List Addr) (r tt ov un tn:Int) (mi ma:Option Int) (ls:RG.Ls)
abbrev RnX(A:Ad)(H:Hp)(p:Addr)(x:Rs):Prop:=Rn A H p x.dx x.a x.bs x.r x.tt x.ov x.un x.tn x.mi x.ma x.ls
structure Ru where
 (p:Addr) (x:Rs)
structure Wi where
 (p dx l:Addr) (c:Int) (ps:List Bp)
structure Di where
 (p dx l:Addr) (n v:Int) (C:List Int)
structure Ba where
 (p dx l:Addr) (q:Q4)
structure KS where
 (k dk:Addr) (room:Nat) (reach span:Int) (cm wn:Fq) (up dn:Ru) (wi:Wi) (di:Di) (ba:Ba)
structure mY(A:Ad)(H:Hp)(room:Nat)(f:Fq):Prop where
 o:H f.p=some (.ins A.C'3 f.dx (fl room f.t f.l f.d))
 d:H f.d=some (.dK (emb f.c))
theorem mY.same{A:Ad}(h:mY A H room f)(s:Same H H'):mY A H' room f:=#[s _ _ h.o,s _ _ h.d]
theorem mY.but{A:Ad}(h:mY A H room f)(s:L2.But q H H')(hq:H q=some (.ins C e fs))(n:f.p≠q):mY A H' room f:=
 #[s _ _ h.o n,s _ _ h.d (fP h.d hq (by intro z;cases z))]
def KS.all(x:KS):List Addr:=[x.k,x.cm.p,x.wn.p,x.up.p,x.dn.p,x.wi.p,x.di.p,x.ba.p]
structure Kp(A:Ad)(H:Hp)(x:KS):Prop where
 o:H x.k=some (.ins A.C'5 x.dk (kf (.int x.room) (.int x.reach) (.int x.span) (.ref x.cm.p) (.ref x.wn.p) (.ref x.up.p) (.ref x.dn.p) (.ref x.wi.p) (.ref x.di.p) (.ref x.ba.p)))
 cm:mY A H x.room x.cm
 wn:mY A H x.room x.wn
 up:RnX A H x.up.p x.up.x
 dn:RnX A H x.dn.p x.dn.x
 wi:Wn A H x.wi.p x.wi.dx x.wi.l x.room x.reach x.wi.c x.wi.ps
 di:Dn A H x.di.p x.di.dx x.di.l x.room x.di.n x.di.v (srt (My.up x.di.v x.di.C))
 ba:Bn A H x.ba.p x.ba.dx x.ba.l x.span x.ba.q
 nd:x.all.Nodup
theorem Kp.same{A:Ad}(h:Kp A H x)(s:Same H H'):Kp A H' x:=#[s _ _ h.o,h.cm.same s,h.wn.same s,h.up.same s,h.dn.same s,h.wi.same s,h.di.same s,h.ba.same s,h.nd]
structure Ap(x:KS):Prop where
 k1:x.k≠x.cm.p
 k2:x.k≠x.wn.p
 k3:x.k≠x.up.p
 k4:x.k≠x.dn.p
 k5:x.k≠x.wi.p
 k6:x.k≠x.di.p
 k7:x.k≠x.ba.p
 c2:x.cm.p≠x.wn.p
 c3:x.cm.p≠x.up.p
 c4:x.cm.p≠x.dn.p
 c5:x.cm.p≠x.wi.p
 c6:x.cm.p≠x.di.p
 c7:x.cm.p≠x.ba.p
 w3:x.wn.p≠x.up.p
 w4:x.wn.p≠x.dn.p
 w5:x.wn.p≠x.wi.p
 w6:x.wn.p≠x.di.p
 w7:x.wn.p≠x.ba.p
 u4:x.up.p≠x.dn.p
 u5:x.up.p≠x.wi.p
 u6:x.up.p≠x.di.p
 u7:x.up.p≠x.ba.p
 d5:x.dn.p≠x.wi.p
 d6:x.dn.p≠x.di.p
 d7:x.dn.p≠x.ba.p
 i6:x.wi.p≠x.di.p
 i7:x.wi.p≠x.ba.p
 s7:x.di.p≠x.ba.p
theorem Kp.ap{A:Ad}(h:Kp A H x):Ap x:=by
 have n:=h.nd;unfold KS.all at n;simp only[iu,aP,jc,or_false,not_or,rP,and_true,not_false_eq_true]at n;obtain⟨⟨k1,k2,k3,k4,k5,k6,k7⟩,⟨c2,c3,c4,c5,c6,c7⟩,⟨w3,w4,w5,w6,w7⟩,⟨u4,u5,u6,u7⟩,⟨d5,d6,d7⟩,⟨i6,i7⟩,s7⟩:=n;show#[k1,k2,k3,k4,k5,k6,k7,c2,c3,c4,c5,c6,c7,w3,w4,w5,w6,w7,u4,u5,u6,u7,d5,d6,d7,i6,i7,s7]
theorem adl(r e:Int)(bs:List WN.Box):(gn r e bs).length<=bs.length:=by
 unfold gn;rw[oH];have h1:=WN.acp r (bs.filter fun b=>decide (e<b.l)).reverse;rw[oH]at h1;exact cW h1 (xR _ _)
theorem fJ{r T ov un:Int}{ls:RG.Ls}{n:Nat}(g:RG.Good r T ov un ls)(h:T<=1000000000000*n)(hn:n<=63):ls.length<=60/\RG.val ls<2 ^ 400:=by
 have e:(2:Int) ^ 60=1152921504606846976:=by decide
 show#[g.len (by rw[e];lia),?_];have:=g.vl;have e:(1152921504606846976:Nat)<2 ^ 400:=by decide
 lia
def KS.pts(x:KS):List Addr:=[x.cm.p,x.wn.p,x.up.p,x.dn.p,x.wi.p,x.di.p,x.ba.p]
structure Pp(A:Ad)(H:Hp)(x:KS):Prop where
 cm:mY A H x.room x.cm
 wn:mY A H x.room x.wn
 up:RnX A H x.up.p x.up.x
 dn:RnX A H x.dn.p x.dn.x
 wi:Wn A H x.wi.p x.wi.dx x.wi.l x.room x.reach x.wi.c x.wi.ps
 di:Dn A H x.di.p x.di.dx x.di.l x.room x.di.n x.di.v (srt (My.up x.di.v x.di.C))
 ba:Bn A H x.ba.p x.ba.dx x.ba.l x.span x.ba.q
 nd:x.pts.Nodup
theorem Kp.pp{A:Ad}(h:Kp A H x):Pp A H x:=#[h.cm,h.wn,h.up,h.dn,h.wi,h.di,h.ba,(iu.mp h.nd).2]
theorem Kp.nk{A:Ad}(h:Kp A H x):x.k∉x.pts:=(iu.mp h.nd).1
section
variable{A:Ad}{H H':Hp}{x:KS}
theorem Pp.kp(h:Pp A H x)(o:H x.k=some (.ins A.C'5 x.dk (kf (.int x.room) (.int x.reach) (.int x.span) (.ref x.cm.p) (.ref x.wn.p) (.ref x.up.p) (.ref x.dn.p) (.ref x.wi.p) (.ref x.di.p) (.ref x.ba.p))))(n:x.k∉x.pts):Kp A H x:=
 #[o,h.cm,h.wn,h.up,h.dn,h.wi,h.di,h.ba,iu.mpr #[n,h.nd]]
theorem Pp.same(h:Pp A H x)(s:Same H H'):Pp A H' x:=#[h.cm.same s,h.wn.same s,h.up.same s,h.dn.same s,h.wi.same s,h.di.same s,h.ba.same s,h.nd]
theorem Pp.but(h:Pp A H x)(b:L2.But q H H')(hq:H q=some (.ins C e fs))(n:q∉x.pts):Pp A H' x:=by
 unfold KS.pts at n;simp only[aP,jc,or_false,not_or]at n;obtain⟨n1,n2,n3,n4,n5,n6,n7⟩:=n;show#[h.cm.but b hq (aL n1),h.wn.but b hq (aL n2),h.up.but b hq (aL n3),h.dn.but b hq (aL n4),h.wi.but b hq (aL n5),h.di.but b hq (aL n6),h.ba.but b hq (aL n7),h.nd]
structure Ap7(x:KS):Prop where
 c:x.cm.p≠x.wn.p/\x.cm.p≠x.up.p/\x.cm.p≠x.dn.p/\x.cm.p≠x.wi.p/\x.cm.p≠x.di.p/\x.cm.p≠x.ba.p
 w:x.wn.p≠x.up.p/\x.wn.p≠x.dn.p/\x.wn.p≠x.wi.p/\x.wn.p≠x.di.p/\x.wn.p≠x.ba.p
 u:x.up.p≠x.dn.p/\x.up.p≠x.wi.p/\x.up.p≠x.di.p/\x.up.p≠x.ba.p
 d:x.dn.p≠x.wi.p/\x.dn.p≠x.di.p/\x.dn.p≠x.ba.p
 i:x.wi.p≠x.di.p/\x.wi.p≠x.ba.p
 s:x.di.p≠x.ba.p
theorem Pp.ap(h:Pp A H x):Ap7 x:=by
 have n:=h.nd;unfold KS.pts at n;simp only[iu,aP,jc,or_false,not_or,rP,and_true,not_false_eq_true]at n;obtain⟨c,w,u,d,i,s⟩:=n;show#[c,w,u,d,i,s]
theorem Pp.setC(h:Pp A H x){f:Fq}(e:f.p=x.cm.p)(b:L2.But x.cm.p H H')(hf:mY A H' x.room f):Pp A H' { x with cm:=f }:=by
 have a:=h.ap;have q:=h.cm.o;obtain ⟨a1,a2,a3,a4,a5,a6⟩:=a.c;show#[hf,h.wn.but b q (aL a1),h.up.but b q (aL a2),h.dn.but b q (aL a3),h.wi.but b q (aL a4),h.di.but b q (aL a5),h.ba.but b q (aL a6),by
  show [f.p,x.wn.p,x.up.p,x.dn.p,x.wi.p,x.di.p,x.ba.p].Nodup;rw [e];exact h.nd]
theorem Pp.setW(h:Pp A H x){f:Fq}(e:f.p=x.wn.p)(b:L2.But x.wn.p H H')(hf:mY A H' x.room f):Pp A H' { x with wn:=f }:=by
 have a:=h.ap;have q:=h.wn.o;obtain ⟨a2,a3,a4,a5,a6⟩:=a.w;show#[h.cm.but b q a.c.1,hf,h.up.but b q (aL a2),h.dn.but b q (aL a3),h.wi.but b q (aL a4),h.di.but b q (aL a5),h.ba.but b q (aL a6),by
  show [x.cm.p,f.p,x.up.p,x.dn.p,x.wi.p,x.di.p,x.ba.p].Nodup;rw [e];exact h.nd]
theorem Pp.setU(h:Pp A H x){f:Ru}(e:f.p=x.up.p)(b:L2.But x.up.p H H')(hf:RnX A H' f.p f.x):Pp A H' { x with up:=f }:=by
 have a:=h.ap;have q:=h.up.o;obtain ⟨a3,a4,a5,a6⟩:=a.u;show#[h.cm.but b q a.c.2.1,h.wn.but b q a.w.1,hf,h.dn.but b q (aL a3),h.wi.but b q (aL a4),h.di.but b q (aL a5),h.ba.but b q (aL a6),by
  show [x.cm.p,x.wn.p,f.p,x.dn.p,x.wi.p,x.di.p,x.ba.p].Nodup;rw [e];exact h.nd]
theorem Pp.setD(h:Pp A H x){f:Ru}(e:f.p=x.dn.p)(b:L2.But x.dn.p H H')(hf:RnX A H' f.p f.x):Pp A H' { x with dn:=f }:=by
 have a:=h.ap;have q:=h.dn.o;obtain ⟨a4,a5,a6⟩:=a.d;show#[h.cm.but b q a.c.2.2.1,h.wn.but b q a.w.2.1,h.up.but b q a.u.1,hf,h.wi.but b q (aL a4),h.di.but b q (aL a5),h.ba.but b q (aL a6),by
  show [x.cm.p,x.wn.p,x.up.p,f.p,x.wi.p,x.di.p,x.ba.p].Nodup;rw [e];exact h.nd]
theorem Pp.setI(h:Pp A H x){f:Wi}(e:f.p=x.wi.p)(b:L2.But x.wi.p H H')(hf:Wn A H' f.p f.dx f.l x.room x.reach f.c f.ps):Pp A H' { x with wi:=f }:=by
 have a:=h.ap;have q:=h.wi.o;show#[h.cm.but b q a.c.2.2.2.1,h.wn.but b q a.w.2.2.1,h.up.but b q a.u.2.1,h.dn.but b q a.d.1,hf,h.di.but b q (aL a.i.1),h.ba.but b q (aL a.i.2),by
  show [x.cm.p,x.wn.p,x.up.p,x.dn.p,f.p,x.di.p,x.ba.p].Nodup;rw [e];exact h.nd]
theorem Pp.setS(h:Pp A H x){f:Di}(e:f.p=x.di.p)(b:L2.But x.di.p H H')(hf:Dn A H' f.p f.dx f.l x.room f.n f.v (srt (My.up f.v f.C))):Pp A H' { x with di:=f }:=by
 have a:=h.ap;have q:=h.di.o;show#[h.cm.but b q a.c.2.2.2.2.1,h.wn.but b q a.w.2.2.2.1,h.up.but b q a.u.2.2.1,h.dn.but b q a.d.2.1,h.wi.but b q a.i.1,hf,h.ba.but b q (aL a.s),by
  show [x.cm.p,x.wn.p,x.up.p,x.dn.p,x.wi.p,f.p,x.ba.p].Nodup;rw [e];exact h.nd]
theorem Pp.setB(h:Pp A H x){f:Ba}(e:f.p=x.ba.p)(b:L2.But x.ba.p H H')(hf:Bn A H' f.p f.dx f.l x.span f.q):Pp A H' { x with ba:=f }:=by
 have a:=h.ap;have q:=h.ba.o;show#[h.cm.but b q a.c.2.2.2.2.2,h.wn.but b q a.w.2.2.2.2,h.up.but b q a.u.2.2.2,h.dn.but b q a.d.2.2,h.wi.but b q a.i.2,h.di.but b q a.s,hf,by
  show [x.cm.p,x.wn.p,x.up.p,x.dn.p,x.wi.p,x.di.p,f.p].Nodup;rw [e];exact h.nd]
structure Far(A:Ad)(ps:List Addr)(H H':Hp):Prop where
 pb:∀b o,H b=some o->b∉ps->H' b=some o
 py:∀y:KS,Pp A H y->(∀b∈y.pts,b∉ps)->Pp A H' y
theorem Far.of(m:p∈ps)(hq:H p=some (.ins C e fs))(b:L2.But p H H'):Far A ps H H':=
 #[fun c o e n=>b c o e fun z=>n (by rwa[z]),fun y h d=>h.but b hq fun z=>d p z m]
theorem Far.trans(a:Far A ps H H1)(b:Far A ps H1 H'):Far A ps H H':=#[fun c o e n=>b.pb c o (a.pb c o e n) n,fun y h d=>b.py y (a.py y h d) d]
end
def FS(room:Nat)(th w:Int)(f g:Fq):Prop:=∃cut,eF room (put f.c th (low f.c th+w)) g.c cut/\g.t=f.t+w/\g.l=f.l+cut
structure RS(th w:Int)(f g:Rs):Prop where
 r:g.r=f.r
 tt:g.tt=f.tt+w
 mi:g.mi=lo2 f.mi (some th)
 ma:g.ma=hi2 f.ma (some th)
 st:RG.Stl f.r 0 f.tn f.ov f.un (RG.fQ th f.ls w.toNat) g.ls g.tn g.ov g.un
def WS(room:Nat)(reach c:Int)(bs:List WN.Box)(g:Wi):Prop:=g.c=c/\bx g.ps=gn room (c-reach) bs
def DS(room:Nat)(th:Int)(f g:Di):Prop:=g.n=f.n+1/\g.C=came f.C th/\Lvl room f.v g.v (came f.C th)
structure SB(x x':KS):Prop where
 room:x'.room=x.room
 reach:x'.reach=x.reach
 span:x'.span=x.span
 pts:x'.pts=x.pts
 k:x'.k=x.k
 dk:x'.dk=x.dk
structure SP(th w:Int)(x x':KS):Prop where
 sb:SB x x'
 cm:FS x.room th w x.cm x'.cm
 wn:x'.wn=x.wn
 up:RS th w x.up.x x'.up.x
 dn:x'.dn=x.dn
 wi:WS x.room x.reach (x.wi.c+1) (bx x.wi.ps++[#[x.wi.c+1,x.wi.c+1,w]]) x'.wi
 di:DS x.room th x.di x'.di
 ba:x'.ba.q=if th<x.span then addQ x.ba.q (pwQ th w)else x.ba.q
structure ST(th w:Int)(x x':KS):Prop where
 sb:SB x x'
 cm:x'.cm=x.cm
 wn:FS x.room th w x.wn x'.wn
 up:x'.up=x.up
 dn:RS th w x.dn.x x'.dn.x
 wi:WS x.room x.reach (x.wi.c+1) (bx x.wi.ps) x'.wi
 di:x'.di=x.di
 ba:x'.ba.q=if th<x.span then addQ x.ba.q (pwQ th (-w))else x.ba.q
structure SI(w:Int)(x x':KS):Prop where
 sb:SB x x'
 cm:x'.cm=x.cm
 wn:x'.wn=x.wn
 up:x'.up=x.up
 dn:x'.dn=x.dn
 wi:WS x.room x.reach (x.wi.c+w) (bx x.wi.ps) x'.wi
 di:x'.di=x.di
 ba:x'.ba=x.ba
structure EF(f g:Fq):Prop where
 t:f.t=g.t
 l:f.l=g.l
 c:f.c=g.c
structure ER(f g:Rs):Prop where
 r:f.r=g.r
 tt:f.tt=g.tt
 ov:f.ov=g.ov
 un:f.un=g.un
 tn:f.tn=g.tn
 mi:f.mi=g.mi
 ma:f.ma=g.ma
 ls:f.ls=g.ls
structure EW(f g:Wi):Prop where
 c:f.c=g.c
 b:bx f.ps=bx g.ps
structure ED(f g:Di):Prop where
 n:f.n=g.n
 v:f.v=g.v
 C:f.C=g.C
structure Eqp(x y:KS):Prop where
 room:x.room=y.room
 reach:x.reach=y.reach
 span:x.span=y.span
 cm:EF x.cm y.cm
 wn:EF x.wn y.wn
 up:ER x.up.x y.up.x
 dn:ER x.dn.x y.dn.x
 wi:EW x.wi y.wi
 di:ED x.di y.di
 ba:x.ba.q=y.ba.q
theorem FS.eq{th w:Int}(a:FS room th w f g)(b:FS room th w f' g')(e:EF f f'):EF g g':=by
 obtain⟨c1,a1,a2,a3⟩:=a;obtain⟨c2,b1,b2,b3⟩:=b;rw[e.c]at a1;have u:=a1.uniq b1;show#[by rw[a2,b2,e.t],by rw[a3,b3,e.l,u.2],u.1]
theorem RS.eq{th w:Int}(a:RS th w f g)(b:RS th w f' g')(e:ER f f'):ER g g':=by
 have s:=a.st;rw[e.r,e.tn,e.ov,e.un,e.ls]at s;obtain⟨u1,u2,u3,u4⟩:=s.uniq b.st;show#[by rw[a.r,b.r,e.r],by rw[a.tt,b.tt,e.tt],u3.symm,u4.symm,u2.symm,by rw[a.mi,b.mi,e.mi],by rw[a.ma,b.ma,e.ma],u1.symm]
theorem DS.eq(a:DS room th f g)(b:DS room th f' g')(e:ED f f'):ED g g':=by
 obtain⟨a1,a2,a3⟩:=a;obtain⟨b1,b2,b3⟩:=b;rw[e.v,e.C]at a3;show#[by rw[a1,b1,e.n],a3.uniq b3,by rw[a2,b2,e.C]]
theorem Eqp.put{th w:Int}(e:Eqp x y)(a:SP th w x x')(b:SP th w y y'):Eqp x' y':=by
 have c:=a.cm;have d:=a.di;rw [e.room] at c d;show#[by rw [a.sb.room,b.sb.room,e.room],by rw [a.sb.reach,b.sb.reach,e.reach],by rw [a.sb.span,b.sb.span,e.span],c.eq b.cm e.cm,by rw [a.wn,b.wn];exact e.wn,a.up.eq b.up e.up,by rw [a.dn,b.dn];exact e.dn,
  #[by rw [a.wi.1,b.wi.1,e.wi.c],by rw [a.wi.2,b.wi.2,e.wi.c,e.wi.b,e.room,e.reach]],d.eq b.di e.di,by rw [a.ba,b.ba,e.span,e.ba]]
theorem Eqp.take{th w:Int}(e:Eqp x y)(a:ST th w x x')(b:ST th w y y'):Eqp x' y':=by
 have c:=a.wn;rw [e.room] at c;show#[by rw [a.sb.room,b.sb.room,e.room],by rw [a.sb.reach,b.sb.reach,e.reach],by rw [a.sb.span,b.sb.span,e.span],by rw [a.cm,b.cm];exact e.cm,c.eq b.wn e.wn,by rw [a.up,b.up];exact e.up,a.dn.eq b.dn e.dn,
  #[by rw [a.wi.1,b.wi.1,e.wi.c],by rw [a.wi.2,b.wi.2,e.wi.c,e.wi.b,e.room,e.reach]],by rw [a.di,b.di];exact e.di,by rw [a.ba,b.ba,e.span,e.ba]]
theorem Eqp.idle{w:Int}(e:Eqp x y)(a:SI w x x')(b:SI w y y'):Eqp x' y':=
 #[by rw [a.sb.room,b.sb.room,e.room],by rw [a.sb.reach,b.sb.reach,e.reach],by rw [a.sb.span,b.sb.span,e.span],by rw [a.cm,b.cm];exact e.cm,by rw [a.wn,b.wn];exact e.wn,by rw [a.up,b.up];exact e.up,by rw [a.dn,b.dn];exact e.dn,
  #[by rw [a.wi.1,b.wi.1,e.wi.c],by rw [a.wi.2,b.wi.2,e.wi.c,e.wi.b,e.room,e.reach]],by rw [a.di,b.di];exact e.di,by rw [a.ba,b.ba,e.ba]]
theorem ag2:∀{ls:RG.Ls}(h:Nat)(tn ov un:Int),(∀l∈ls,(l.length:Int)<=room)->RG.Stl room h tn ov un ls ls tn ov un
 |[],h,tn,ov,un,_=>.nil h tn ov un
 |l::ls,h,tn,ov,un,hs=>.keep (hs l bY) (ag2 (h+1) tn ov un fun k m=>hs k (cF _ m))
theorem ain{cut:Int}(h:eF room c b cut):b.length<=c.length:=by
 unfold eF at h;split at h
 ·rw[h.2];exact aK _
 ·rw[h.2];unfold cN;rw[aD];exact xR _ _
structure Gf(room:Nat)(f:Fq)(n:Nat):Prop where
 ok:∃W,Ok room f.c f.t f.l W
 t:f.t<=1000000000000*n
 k:f.c.length<=n
structure Gr(room:Nat)(f:Rs)(n:Nat):Prop where
 r:f.r=room
 g:RG.Good f.r f.tt f.ov f.un f.ls
 t:f.tt<=1000000000000*n
 sm:room<=15\/∀l∈f.ls,l.length<=n
structure Kh(x:KS)(n:Nat):Prop where
 r2:2<=x.room
 r64:x.room<=64
 rr:x.room<=15\/x.room=64
 cm:Gf x.room x.cm n
 wn:Gf x.room x.wn n
 up:Gr x.room x.up.x n
 dn:Gr x.room x.dn.x n
 wl:x.wi.ps.length<=n
 dl:oO x.room x.di.v x.di.C
 dc:x.di.C.length<=n
 few:n<=63
theorem Gf.add{th w:Int}(h:Gf room f n)(s:FS room th w f g)(w1:1<=w)(w2:w<=1000000000000):Gf room g (n+1):=by
 obtain⟨cut,a,b,c⟩:=s;obtain⟨W,ok⟩:=h.ok;have:=h.t;show#[#[_,by rw[b,c];exact(ok.add (k:=th) w1).fit a],by rw[b];lia,by have:=ain a;have:=aac f.c th (low f.c th+w);have:=h.k;lia]
theorem Gf.next(h:Gf room f n):Gf room f (n+1):=#[h.ok,by have:=h.t;lia,YM h.k]
theorem Gr.add{room:Nat}{f g:Rs}{n:Nat}{th w:Int}(h:Gr room f n)(s:RS th w f g)(w1:1<=w)(w2:w<=1000000000000)(rr:room<=15\/room=64)(hn:n<63):Gr room g (n+1):=by
 have:=h.t;obtain⟨g',_⟩:=h.g.add w1 s.st;show#[by rw[s.r,h.r],by rwa[s.r,s.tt],by rw[s.tt];lia,rr.imp id fun z=>?_];have sl:=h.sm.resolve_left tb_g%;have wl:=RG.Ri th w.toNat f.ls sl;have hr:=h.r;obtain⟨e,_⟩:=(ag2 0 f.tn f.ov f.un fun l m=>by have:=wl l m;lia).uniq s.st;rwa[e]
theorem Gr.next(h:Gr room f n):Gr room f (n+1):=#[h.r,h.g,by have:=h.t;lia,h.sm.imp id fun z l m=>YM (z l m)]
theorem Gr.le62(h:Gr room f n)(rr:room<=15\/room=64)(hn:n<63):(∀l∈f.ls,l.length<=62)/\((∀l∈f.ls,l.length<=30)\/∀l∈f.ls,(l.length:Int)+1<=f.r):=by
 have e:=h.r;rcases rr with z|z
 ·show#[fun l m=>by have:=h.g.sm l m;lia,.inl fun l m=>by have:=h.g.sm l m;lia]
 ·have sl:=h.sm.resolve_left tb_g%;show#[fun l m=>by have:=sl l m;lia,.inr fun l m=>by have:=sl l m;lia]
theorem WS.len(h:WS room reach c bs g):g.ps.length<=bs.length:=by
 have h1:=adl room (c-reach) bs;rwa[<-h.2,gk]at h1
theorem Kh.put{th w:Int}(h:Kh x n)(hn:n<63)(s:SP th w x x')(w1:1<=w)(w2:w<=1000000000000):Kh x' (n+1):=by
 have r:=s.sb.room;show#[by rw[r];exact h.r2,by rw[r];exact h.r64,by rw[r];exact h.rr,by rw[r];exact h.cm.add s.cm w1 w2,by rw[r,s.wn];exact h.wn.next,by rw[r];exact h.up.add s.up w1 w2 h.rr hn,by rw[r,s.dn];exact h.dn.next,?_,?_,?_,hn]
 ·have:=s.wi.len;rw[cu,gk]at this;have l1:=h.wl;exact cW this (by show x.wi.ps.length+1<=n+1;lia)
 ·rw[r,s.di.2.1];exact h.dl.lvl s.di.2.2 fun w=>aq6
 ·rw[s.di.2.1];have:=(ade x.di.C th).2;have:=h.dc;lia
theorem Kh.take{th w:Int}(h:Kh x n)(hn:n<63)(s:ST th w x x')(w1:1<=w)(w2:w<=1000000000000):Kh x' (n+1):=by
 have r:=s.sb.room;show#[by rw[r];exact h.r2,by rw[r];exact h.r64,by rw[r];exact h.rr,by rw[r,s.cm];exact h.cm.next,by rw[r];exact h.wn.add s.wn w1 w2,by rw[r,s.up];exact h.up.next,by rw[r];exact h.dn.add s.dn w1 w2 h.rr hn,?_,by rw[r,s.di];exact h.dl,by rw[s.di];have:=h.dc;lia,hn];have:=s.wi.len;rw[gk]at this;have l1:=h.wl;lia
theorem Kh.idle{w:Int}(h:Kh x n)(hn:n<63)(s:SI w x x'):Kh x' (n+1):=by
 have r:=s.sb.room;show#[by rw[r];exact h.r2,by rw[r];exact h.r64,by rw[r];exact h.rr,by rw[r,s.cm];exact h.cm.next,by rw[r,s.wn];exact h.wn.next,by rw[r,s.up];exact h.up.next,by rw[r,s.dn];exact h.dn.next,?_,by rw[r,s.di];exact h.dl,by rw[s.di];have:=h.dc;lia,hn];have:=s.wi.len;rw[gk]at this;have l1:=h.wl;lia
theorem EF.by(a:EF f z)(b:EF g z):EF f g:=#[a.t.trans b.t.symm,a.l.trans b.l.symm,a.c.trans b.c.symm]
theorem ER.by(a:ER f z)(b:ER g z):ER f g:=#[a.r.trans b.r.symm,a.tt.trans b.tt.symm,a.ov.trans b.ov.symm,a.un.trans b.un.symm,a.tn.trans b.tn.symm,a.mi.trans b.mi.symm,a.ma.trans b.ma.symm,a.ls.trans b.ls.symm]
theorem Eqp.by(a:Eqp x z)(b:Eqp y z):Eqp x y:=
 #[a.room.trans b.room.symm,a.reach.trans b.reach.symm,a.span.trans b.span.symm,a.cm.by b.cm,a.wn.by b.wn,a.up.by b.up,a.dn.by b.dn,#[a.wi.c.trans b.wi.c.symm,a.wi.b.trans b.wi.b.symm],#[a.di.n.trans b.di.n.symm,a.di.v.trans b.di.v.symm,a.di.C.trans b.di.C.symm],a.ba.trans b.ba.symm]
def R0(room:Nat):Rs:=#[0,0,[],room,0,0,0,0,none,none,[]]
def K0(room:Nat)(reach span:Int):KS:=#[0,0,room,reach,span,#[0,0,0,0,0,[]],#[0,0,0,0,0,[]],#[0,R0 room],#[0,R0 room],#[0,0,0,0,[]],#[0,0,0,0,0,[]],#[0,0,0,ail]]
theorem Kh.eq(h:Kh y n)(e:Eqp x y):Kh x n:=by
 have gf:∀{f g:Fq},EF f g->Gf y.room g n->Gf x.room f n:=fun {f g} e1 g1=>#[by rw[e.room,e1.t,e1.l,e1.c];exact g1.ok,by rw[e1.t];exact g1.t,by rw[e1.c];exact g1.k];have gr:∀{f g:Rs},ER f g->Gr y.room g n->Gr x.room f n:=fun {f g} e1 g1=>#[by rw[e.room,e1.r];exact g1.r,by rw[e1.r,e1.tt,e1.ov,e1.un,e1.ls];exact g1.g,by rw[e1.tt];exact g1.t,by rw[e.room,e1.ls];exact g1.sm];show#[by rw[e.room];exact h.r2,by rw[e.room];exact h.r64,by rw[e.room];exact h.rr,gf e.cm h.cm,gf e.wn h.wn,gr e.up h.up,gr e.dn h.dn,?_,by rw[e.room,e.di.v,e.di.C];exact h.dl,by rw[e.di.C];exact h.dc,h.few];rw[<-gk,e.wi.b,gk];exact h.wl
theorem kh0(reach span:Int)(r2:2<=room)(r64:room<=64)(ev:room % 2=0)(rr:room<=15\/room=64):Kh (K0 room reach span) 0:=by
 have ok0:Gf room ⟨0,0,0,0,0,[]⟩ 0:=⟨⟨_,Ok.empty room⟩,cC _,aK _⟩;have g0:RG.Good (room:Int) 0 0 0 []:=RG.Good.new tb_g% tb_g% tb_g%;exact⟨r2,r64,rr,ok0,ok0,⟨rfl,g0,cC _,.inr fun l m=>(nomatch m)⟩,⟨rfl,g0,cC _,.inr fun l m=>(nomatch m)⟩,aK _,⟨cC _,by show((0:Nat):Int)<=room;lia,fun w a b=>mM a (by have b2:w<0:=b;lia)⟩,aK _,by decide⟩
def KS.ems(x:KS):List Addr:=x.up.x.a::x.dn.x.a::x.wi.l::x.di.l::(x.up.x.bs++x.dn.x.bs)
def Em(H:Hp)(x x':KS):Prop:=∀c∈x'.ems,c∈x.ems\/H c=none
theorem Pp.live{A:Ad}(h:Pp A H x):∀b∈x.pts,H b≠none:=fun b m=>by
 unfold KS.pts at m;simp only[aP,jc,or_false]at m;rcases m with rfl|rfl|rfl|rfl|rfl|rfl|rfl
 ·rw[h.cm.o];intro z;cases z
 ·rw[h.wn.o];intro z;cases z
 ·rw[h.up.o];intro z;cases z
 ·rw[h.dn.o];intro z;cases z
 ·rw[h.wi.o];intro z;cases z
 ·rw[h.di.o];intro z;cases z
 ·rw[h.ba.o];intro z;cases z
theorem Far.none{A:Ad}(f:Far A ps H H1)(lv:∀b∈ps,H1 b≠Option.none)(n:H1 c=Option.none):H c=Option.none:=by
 cases e:H c with
 |none=>rfl
 |some o =>
  exfalso;by_cases m:c∈ps
  ·exact lv c m n
  ·rw[f.pb c o e m]at n;cases n
def avz(A:Ad):Sp:=fun vs H Q _=>Ex4 fun x n th w=>qT (vs=[.ref x.k,.int th,.int w]) (Kp A H x) (Kh x n) (n<63) (0<=th) (th<1152921504606846976) (1<=w) (w<=1000000000000/\∀x' H',Kp A H' x'->SP th w x x'->Far A x.pts H H'->Em H x x'->Q .non H')
theorem Ny(T:Tx K mg A):FnM P w mg base T.qH CX0 6 (avz A):=by
 k_dat (T.qH,T.qH.ok,Nm) "f"
 ·obtain⟨x,n,th,w,rfl,hK,hG,hn,th0,th1,w1,w2,q⟩:=h;have e64:(2:Int) ^ 64=18446744073709551616:=by decide
  have r2:=hG.r2;have r64:=hG.r64;have lu:=fJ hG.up.g hG.up.t hG.few;have su:=hG.up.g.small;have hrm:=hG.up.r;obtain⟨W,okf⟩:=hG.cm.ok;show#[_,by (k_dat ([hdM],[],[]) "p"; k_dat (cI (pf 0) T.uO (yG T) (bV (pv 1) (bV (pv 2) fO))) "h"; k_dat (cI (pf 0) T.fU (Ht T) (bV (pv 1) (bV (pv 2) fO))) "h"; k_dat (cI (pf 0) T.uN (Vu T) (bV (pv 2) fO)) "h"; k_dat (cI (pf 0) T.wK (Nv T) (bV (pv 1) fO)) "h"; k_dat (cI (pf 0) T.Vk (T3 T) (bV (pv 1) (bV (pv 2) fO))) "h"),?_]
  k_dat lq "c"
  show#[_,rfl,rdG hK.o (Bv T) #[x.cm.p,x.cm.dx,_,rfl,hK.cm.o,aik _ _ _ _ tb_g% tb_g% tb_g% tb_g%,_,rfl,_,rfl,x.cm.p,x.cm.dx,x.cm.d,x.room,x.cm.t,x.cm.l,th,w,x.cm.c,rfl,hK.cm.o,hK.cm.d,okf.nd,okf.pos,w1,by have:=hG.cm.k;lia,fun d1 c1 cut H1 hd1 ft o1 e1 b1=>?_]]
  k_dat lqn "c"
  have P1:=hK.pp.setC (f:=#[x.cm.p,x.cm.dx,d1,x.cm.t+w,x.cm.l+cut,c1]) rfl b1 #[o1,e1];have f1:Far A x.pts H H1:=Far.of (mv (i:=0) rfl) hK.cm.o b1;show#[_,rfl,rdG (f1.pb _ _ hK.o hK.nk) (Xl T) #[x.up.p,x.up.x.dx,_,rfl,P1.up.o,rgN tb_g%,_,rfl,_,rfl,x.up.p,x.up.x.dx,x.up.x.a,x.up.x.bs,x.up.x.r,x.up.x.tt,x.up.x.ov,x.up.x.un,x.up.x.tn,th,w,x.up.x.mi,x.up.x.ma,x.up.x.ls,rfl,P1.up,hG.up.g.r2,hG.up.g.r64,by lia,by rw[e64];lia,by lia,(hG.up.le62 hG.rr hn).1,(hG.up.le62 hG.rr hn).2,lu.2,fun a' bs' out tn' ov' un' H2 st rn b2 na2 nb2=>?_]]
  k_dat lqn "c"
  have P2:=P1.setU (f:=#[x.up.p,#[x.up.x.dx,a',bs',x.up.x.r,x.up.x.tt+w,ov',un',tn',_,_,out]]) rfl b2 rn;have f2:=f1.trans (Far.of (A:=A) (ps:=x.pts) (mv (i:=2) rfl) P1.up.o b2);show#[_,rfl,rdG (f2.pb _ _ hK.o hK.nk) (jJ T) #[x.wi.p,x.wi.dx,_,rfl,P2.wi.o,Xi _ _ _ _ tb_g% tb_g% tb_g% tb_g%,_,rfl,x.wi.p,x.wi.dx,x.wi.l,x.room,x.reach,x.wi.c,w,x.wi.ps,rfl,P2.wi,by have:=hG.wl;lia,by lia,by lia,fun l3 ps3 H3 eb3 wn3 b3 nl3=>?_]];have P3:=P2.setI (f:=#[x.wi.p,x.wi.dx,l3,x.wi.c+1,ps3]) rfl b3 wn3;have f3:=f2.trans (Far.of (A:=A) (ps:=x.pts) (mv (i:=4) rfl) P2.wi.o b3);show#[_,rfl,rdG (f3.pb _ _ hK.o hK.nk) (rK T) #[x.di.p,x.di.dx,_,rfl,P3.di.o,ao3 _ _ _ _ tb_g% tb_g% tb_g% tb_g%,_,rfl,x.di.p,x.di.dx,x.di.l,x.room,x.di.n,x.di.v,th,x.di.C,rfl,P3.di,hG.dl,by have:=hG.dc;lia,by lia,by lia,fun l4 v4 H4 lv4 dn4 b4 nl4=>?_]];have P4:=P3.setS (f:=#[x.di.p,x.di.dx,l4,x.di.n+1,v4,came x.di.C th]) rfl b4 dn4;have f4:=f3.trans (Far.of (A:=A) (ps:=x.pts) (mv (i:=5) rfl) P3.di.o b4);have em:∀c∈a'::x.dn.x.a::l3::l4::(bs'++x.dn.x.bs),c∈x.ems\/H c=none:=fun c m=>by
   unfold KS.ems;simp only[aP,bH]at m ⊢;rcases m with rfl|rfl|rfl|rfl|m|m
   ·exact .inr (f1.none P1.live na2)
   ·exact .inl (.inr (.inl rfl))
   ·exact .inr (f2.none P2.live nl3)
   ·rcases nl4 with rfl|n
    ·exact .inl (.inr (.inr (.inr (.inl rfl))))
    ·exact .inr (f3.none P3.live n)
   ·rcases nb2 c m with m|n
    ·exact .inl (.inr (.inr (.inr (.inr (.inl m)))))
    ·exact .inr (f1.none P1.live n)
   ·exact .inl (.inr (.inr (.inr (.inr (.inr m)))))
  have o4:=f4.pb _ _ hK.o hK.nk;show#[_,rfl,_,rfl,rdG o4 (xQ T) #[_,_,rfl,rfl,_,rfl,dh (fun hs=>?_) (fun hs=>?_)]]
  ·have hs:th<x.span:=mS hs;show#[_,rfl,rdG o4 (iR T) #[x.ba.p,x.ba.dx,_,rfl,P4.ba.o,arX _ _ tb_g% tb_g%,_,rfl,_,rfl,x.ba.p,x.ba.dx,x.ba.l,x.span,th,w,x.ba.q,rfl,P4.ba,th0,by rw[e64];lia,fun l5 H5 bn5 b5 nl5=>?_]];have P5:=P4.setB (f:=#[x.ba.p,x.ba.dx,l5,_]) rfl b5 bn5;have f5:=f4.trans (Far.of (A:=A) (ps:=x.pts) (mv (i:=6) rfl) P4.ba.o b5);exact q _ H5 (P5.kp (f5.pb _ _ hK.o hK.nk) hK.nk) #[#[rfl,rfl,rfl,rfl,rfl,rfl],#[cut,ft,rfl,rfl],rfl,#[rfl,rfl,rfl,rfl,st],rfl,#[rfl,eb3],#[rfl,rfl,lv4],(mI hs).symm] f5 em
  ·have hs:¬ th<x.span:=fun z=>hs (mP z);exact q _ H4 (P4.kp o4 hK.nk) #[#[rfl,rfl,rfl,rfl,rfl,rfl],#[cut,ft,rfl,rfl],rfl,#[rfl,rfl,rfl,rfl,st],rfl,#[rfl,eb3],#[rfl,rfl,lv4],(mB hs).symm] f4 em
def aq9(A:Ad):Sp:=fun vs H Q _=>Ex4 fun x n th w=>qT (vs=[.ref x.k,.int th,.int w]) (Kp A H x) (Kh x n) (n<63) (0<=th) (th<1152921504606846976) (1<=w) (w<=1000000000000/\∀x' H',Kp A H' x'->ST th w x x'->Far A x.pts H H'->Em H x x'->Q .non H')
theorem KD(T:Tx K mg A):FnM P w mg base T.nY CX0 7 (aq9 A):=by
 k_dat (T.nY,T.nY.ok,Kv) "f"
 ·obtain⟨x,n,th,w,rfl,hK,hG,hn,th0,th1,w1,w2,q⟩:=h;have e64:(2:Int) ^ 64=18446744073709551616:=by decide
  have r2:=hG.r2;have r64:=hG.r64;have lu:=fJ hG.dn.g hG.dn.t hG.few;have su:=hG.dn.g.small;have hrm:=hG.dn.r;obtain⟨W,okf⟩:=hG.wn.ok;show#[_,by (k_dat ([hdM],[],[]) "p"; k_dat (cI (pf 0) T.uO (yG T) (bV (pv 1) (bV (pv 2) fO))) "h"; k_dat (cI (pf 0) T.fU (Ht T) (bV (pv 1) (bV (pv 2) fO))) "h"; k_dat (cI (pf 0) T.uN (Az T) (bV JD fO)) "h"; k_dat (cI (pf 0) T.Vk (Nx T) (bV (pv 1) (bV (pv 2) fO))) "h"),?_]
  k_dat lq "c"
  show#[_,rfl,rdG hK.o (Bw T) #[x.wn.p,x.wn.dx,_,rfl,hK.wn.o,aik _ _ _ _ tb_g% tb_g% tb_g% tb_g%,_,rfl,_,rfl,x.wn.p,x.wn.dx,x.wn.d,x.room,x.wn.t,x.wn.l,th,w,x.wn.c,rfl,hK.wn.o,hK.wn.d,okf.nd,okf.pos,w1,by have:=hG.wn.k;lia,fun d1 c1 cut H1 hd1 ft o1 e1 b1=>?_]]
  k_dat lqn "c"
  have P1:=hK.pp.setW (f:=#[x.wn.p,x.wn.dx,d1,x.wn.t+w,x.wn.l+cut,c1]) rfl b1 #[o1,e1];have f1:Far A x.pts H H1:=Far.of (mv (i:=1) rfl) hK.wn.o b1;show#[_,rfl,rdG (f1.pb _ _ hK.o hK.nk) (Bx T) #[x.dn.p,x.dn.x.dx,_,rfl,P1.dn.o,rgN tb_g%,_,rfl,_,rfl,x.dn.p,x.dn.x.dx,x.dn.x.a,x.dn.x.bs,x.dn.x.r,x.dn.x.tt,x.dn.x.ov,x.dn.x.un,x.dn.x.tn,th,w,x.dn.x.mi,x.dn.x.ma,x.dn.x.ls,rfl,P1.dn,hG.dn.g.r2,hG.dn.g.r64,by lia,by rw[e64];lia,by lia,(hG.dn.le62 hG.rr hn).1,(hG.dn.le62 hG.rr hn).2,lu.2,fun a' bs' out tn' ov' un' H2 st rn b2 na2 nb2=>?_]];have P2:=P1.setD (f:=#[x.dn.p,#[x.dn.x.dx,a',bs',x.dn.x.r,x.dn.x.tt+w,ov',un',tn',_,_,out]]) rfl b2 rn;have f2:=f1.trans (Far.of (A:=A) (ps:=x.pts) (mv (i:=3) rfl) P1.dn.o b2);show#[_,rfl,rdG (f2.pb _ _ hK.o hK.nk) (jJ T) #[x.wi.p,x.wi.dx,_,rfl,P2.wi.o,Xi _ _ _ _ tb_g% tb_g% tb_g% tb_g%,x.wi.p,x.wi.dx,x.wi.l,x.room,x.reach,x.wi.c,1,x.wi.ps,rfl,P2.wi,by have:=hG.wl;lia,by lia,by lia,fun l3 ps3 H3 eb3 wn3 b3 nl3=>?_]];have P3:=P2.setI (f:=#[x.wi.p,x.wi.dx,l3,x.wi.c+1,ps3]) rfl b3 wn3;have f3:=f2.trans (Far.of (A:=A) (ps:=x.pts) (mv (i:=4) rfl) P2.wi.o b3);have em:∀c∈x.up.x.a::a'::l3::x.di.l::(x.up.x.bs++bs'),c∈x.ems\/H c=none:=fun c m=>by
   unfold KS.ems;simp only[aP,bH]at m ⊢;rcases m with rfl|rfl|rfl|rfl|m|m
   ·exact .inl (.inl rfl)
   ·exact .inr (f1.none P1.live na2)
   ·exact .inr (f2.none P2.live nl3)
   ·exact .inl (.inr (.inr (.inr (.inl rfl))))
   ·exact .inl (.inr (.inr (.inr (.inr (.inl m)))))
   ·rcases nb2 c m with m|n
    ·exact .inl (.inr (.inr (.inr (.inr (.inr m)))))
    ·exact .inr (f1.none P1.live n)
  have o3:=f3.pb _ _ hK.o hK.nk;show#[_,rfl,_,rfl,rdG o3 (xQ T) #[_,_,rfl,rfl,_,rfl,dh (fun hs=>?_) (fun hs=>?_)]]
  ·have hs:th<x.span:=mS hs;show#[_,rfl,rdG o3 (iR T) #[x.ba.p,x.ba.dx,_,rfl,P3.ba.o,arX _ _ tb_g% tb_g%,_,rfl,_,rfl,x.ba.p,x.ba.dx,x.ba.l,x.span,th,w,x.ba.q,rfl,P3.ba,th0,by rw[e64];lia,fun l5 H5 bn5 b5 nl5=>?_]];have P5:=P3.setB (f:=#[x.ba.p,x.ba.dx,l5,_]) rfl b5 bn5;have f5:=f3.trans (Far.of (A:=A) (ps:=x.pts) (mv (i:=6) rfl) P3.ba.o b5);exact q _ H5 (P5.kp (f5.pb _ _ hK.o hK.nk) hK.nk) #[#[rfl,rfl,rfl,rfl,rfl,rfl],rfl,#[cut,ft,rfl,rfl],rfl,#[rfl,rfl,rfl,rfl,st],#[rfl,eb3],rfl,(mI hs).symm] f5 em
  ·have hs:¬ th<x.span:=fun z=>hs (mP z);exact q _ H3 (P3.kp o3 hK.nk) #[#[rfl,rfl,rfl,rfl,rfl,rfl],rfl,#[cut,ft,rfl,rfl],rfl,#[rfl,rfl,rfl,rfl,st],#[rfl,eb3],rfl,(mB hs).symm] f3 em
def ara(A:Ad):Sp:=fun vs H Q _=>Ex3 fun x n w=>uU (vs=[.ref x.k,.int w]) (Kp A H x) (Kh x n) (∀x' H',Kp A H' x'->SI w x x'->Far A x.pts H H'->Em H x x'->Q .non H')
theorem KH(T:Tx K mg A):FnM P w mg base T.nZ CX0 6 (ara A):=by
 k_dat (T.nZ,T.nZ.ok,Kw) "f"
 ·obtain⟨x,n,w,rfl,hK,hG,q⟩:=h;have r2:=hG.r2;have r64:=hG.r64;have few:=hG.few;show#[_,by k_dat ([],[cI ?_ T.uN (Az T) ?_],[]) "p",?_];show#[_,rfl,rdG hK.o (jJ T) #[x.wi.p,x.wi.dx,_,rfl,hK.wi.o,Xi _ _ _ _ tb_g% tb_g% tb_g% tb_g%,_,rfl,x.wi.p,x.wi.dx,x.wi.l,x.room,x.reach,x.wi.c,w,x.wi.ps,rfl,hK.wi,by have:=hG.wl;lia,by lia,by lia,fun l3 ps3 H3 eb3 wn3 b3 nl3=>?_]];have P3:=hK.pp.setI (f:=#[x.wi.p,x.wi.dx,l3,x.wi.c+w,ps3]) rfl b3 wn3;have f3:Far A x.pts H H3:=Far.of (mv (i:=4) rfl) hK.wi.o b3;exact q _ H3 (P3.kp (f3.pb _ _ hK.o hK.nk) hK.nk) #[#[rfl,rfl,rfl,rfl,rfl,rfl],rfl,rfl,rfl,rfl,#[rfl,eb3],rfl,rfl] f3 fun c m=>by
   have m:c∈x.up.x.a::x.dn.x.a::l3::x.di.l::(x.up.x.bs++x.dn.x.bs):=m;unfold KS.ems;simp only[aP,bH]at m ⊢;rcases m with rfl|rfl|rfl|rfl|m|m
   ·exact .inl (.inl rfl)
   ·exact .inl (.inr (.inl rfl))
   ·exact .inr nl3
   ·exact .inl (.inr (.inr (.inr (.inl rfl))))
   ·exact .inl (.inr (.inr (.inr (.inr (.inl m)))))
   ·exact .inl (.inr (.inr (.inr (.inr (.inr m)))))
structure Cs(H G:Hp)(k C dk:Addr)(fs:List (Str × V))(ps:List Addr):Prop where
 o:G k=some (.ins C dk fs)
 b:But k H G
 fr:∀p∈ps,H p=none
 lv:∀p∈ps,G p≠none
 nd:(k::ps).Nodup
structure Sta(k:Addr)(P:Hp->Prop):Prop where
 s:∀{G I:Hp},P G->Same G I->P I
 b:∀{G I:Hp}{C e:Addr} {fs:List (Str × V)},P G->But k G I->G k=some (.ins C e fs)->P I
theorem Sta.and{P R:Hp->Prop}(a:Sta k P)(b:Sta k R):Sta k fun G=>P G/\R G:=#[fun h s=>#[a.s h.1 s,b.s h.2 s],fun h s o=>#[a.b h.1 s o,b.b h.2 s o]]
section
variable{H G I:Hp}{k C dk p dx X:Addr}{ps:List Addr}
theorem Cs.s(n:G p=none)(m:G dx=none)(bt:But p (upd (upd G dx (.own p)) p (.ins X dx [])) I):Same G I:=fun b o e=>bt b o (by rwa[ao (ak e n),ao (ak e m)]) (ak e n)
theorem Cs.free(h:Cs H G k C dk fs ps)(y:(upd (upd G dx (.own p)) p (.ins X dx [])) d=none):H d=none:=by
 have np:d≠p:=fun z=>by rw[z,aj]at y;cases y
 rw[ao np]at y;have nq:d≠dx:=fun z=>by rw[z,aj]at y;cases y
 rw[ao nq]at y;exact d9 h.b y (aL (ak h.o y))
theorem Cs.next{α:Type}{R:α->Hp->Prop}{σ:α}(h:Cs H G k C dk fs ps)(n:G p=none)(m:G dx=none)(bt:But p (upd (upd G dx (.own p)) p (.ins X dx [])) I)(lv:I p≠none)
  (q:∀J,Cs H J k C dk fs' (ps++[p])->p≠k->(∀{P:Hp->Prop},Sta k P->P I->P J)->(∀{P:Hp->Prop},Sta k P->P G->P J)->R σ J):R σ (upd I k (.ins C dk fs')):=by
 have s:=Cs.s n m bt;have o:=s _ _ h.o;have nk:p≠k:=aL (ak h.o n);have u:But k I (upd I k (.ins C dk fs')):=But.upd;have np:p∉ps:=fun z=>h.lv p z n;have nd:=iu.mp h.nd;refine q _ #[aj,(h.b.trans (s.but k)).trans u,fun b mb=>?_,fun b mb=>?_,iu.mpr #[fun z=>?_,Ii.mpr #[nd.2,iu.mpr #[jc,rP],fun a ma b mb=>?_]]] nk (fun S z=>S.b z u o) (fun S z=>S.b (S.s z s) u o)
 ·rcases bH.mp mb with z|z
  ·exact h.fr b z
  ·rw[bO.mp z];exact d9 h.b n nk
 ·rcases bH.mp mb with z|z
  ·rw[ao fun y=>nd.1 (by rwa[<-y])];intro y;exact h.lv b z (s.free y)
  ·rwa[bO.mp z,ao nk]
 ·rcases bH.mp z with z|z
  ·exact nd.1 z
  ·exact nk (bO.mp z).symm
 ·rw[bO.mp mb];exact fun z=>np (by rwa[<-z])
end
def arb(A:Ad):Sp:=fun vs H Q _=>Ex5 fun(k dk:Addr) (room:Nat) (reach span:Int)=>KC (vs=[.ref k,.int room,.int reach,.int span]) (H k=some (.ins A.C'5 dk [])) (2<=room) (room<=64) (room % 2=0) (∀(x:KS)(H':Hp),Kp A H' x->Eqp x (K0 room reach span)->x.k=k->(∀b∈x.pts,H b=none)->(∀b∈x.ems,H b=none)->But k H H'->Q .non H')
theorem mY.sta{A:Ad}{f:Fq}(n:f.p≠k):Sta k fun G=>mY A G room f:=#[fun h s=>h.same s,fun h b o=>h.but b o n]
theorem RnX.sta{A:Ad}(n:p≠k):Sta k fun G=>RnX A G p x:=#[fun h s=>h.same s,fun h b o=>h.but b o n]
theorem lZ(T:Tx K mg A):FnM P w mg base T.n8 CX0 3 (arb A):=by
 k_dat (T.n8,T.n8.ok,Ky) "f"
 ·obtain⟨k,dk,room,reach,span,rfl,hk,r2,r64,ev,q⟩:=h;show#[_,by k_dat ([],[f9 T.afC T.S5 (uZ T) ?_,f9 T.afz T.ahY (Cw T) ?_,f9 T.afA T.acZ (Ay T) ?_,f9 T.afB T.SN (uX T) ?_,f9 T.afD T.Xc (yH T) ?_],[]) "p",?_];refine sq fun R hR=>#[_,rfl,_,rfl,k,_,dk,[],rfl,hk,T.jK,T.ah4,tb_g%,hR _ _ ?_];refine sq fun R hR=>#[_,rfl,_,rfl,k,_,dk,_,rfl,aj,T.jK,T.ah5,tb_g%,hR _ _ ?_];refine sq fun R hR=>#[_,rfl,_,rfl,k,_,dk,_,rfl,aj,T.jK,T.ah6,tb_g%,?_];rw[cA,cA]
  k_dat (nbA,G,zG,fG) "n"
  have C0:Cs H G k A.C'5 dk _ []:=⟨fG,zG,(fun b m=>nomatch m),(fun b m=>nomatch m),iu.mpr ⟨jc,rP⟩⟩;refine hR _ _ (sq fun R hR=>⟨_,rfl,fun p1 dx1 n m _=>⟨p1,dx1,(room:Int),rfl,aj,fun d1 I _ e g bt=>⟨rfl,_,rfl,k,_,dk,_,rfl,(Cs.s n m bt) _ _ C0.o,T.jK,T.ac0,tb_g%,C0.next n m bt (fun z=>by rw[e]at z;cases z) fun G1 C1 nk kI kG=>hR _ _ ?_⟩⟩⟩)
  k_dat lq "c"
  have S:=mY.sta (A:=A) (room:=room) (f:=#[p1,dx1,d1,0,0,[]]) nk;have F:=kI S #[e,g];refine sq fun R hR=>#[_,rfl,fun p2 dx2 n m _=>#[p2,dx2,(room:Int),rfl,aj,fun d2 I _ e g bt=>#[rfl,_,rfl,k,_,dk,_,rfl,(Cs.s n m bt) _ _ C1.o,T.jK,T.ac1,tb_g%,C1.next n m bt (fun z=>by rw[e]at z;cases z) fun G2 C2 nk kI kG=>hR _ _ ?_]]]
  k_dat lq "c"
  have S':=mY.sta (A:=A) (room:=room) (f:=⟨p2,dx2,d2,0,0,[]⟩) nk;replace F:=And.intro (kG S F) (kI S' ⟨e,g⟩);replace S:=S.and S';refine sq fun R hR=>⟨_,rfl,fun p3 dx3 n m _=>⟨p3,dx3,(room:Int),rfl,aj,fun d3 I hd e g bt=>⟨rfl,_,rfl,k,_,dk,_,rfl,(Cs.s n m bt) _ _ C2.o,T.jK,T.ac2,tb_g%,C2.next n m bt (fun z=>by rw[e]at z;cases z) fun G3 C3 nk kI kG=>hR _ _ ?_⟩⟩⟩;have v3:=C2.free hd;have S':=RnX.sta (A:=A) (x:=⟨dx3,d3,[],room,0,0,0,0,none,none,[]⟩) nk;replace F:=And.intro (kG S F) (kI S' (Rn.new e g));replace S:=S.and S';refine sq fun R hR=>⟨_,rfl,fun p4 dx4 n m _=>⟨p4,dx4,(room:Int),rfl,aj,fun d4 I hd e g bt=>⟨rfl,_,rfl,k,_,dk,_,rfl,(Cs.s n m bt) _ _ C3.o,T.jK,T.ac3,tb_g%,C3.next n m bt (fun z=>by rw[e]at z;cases z) fun G4 C4 nk kI kG=>hR _ _ ?_⟩⟩⟩;have v4:=C3.free hd;have S':=RnX.sta (A:=A) (x:=⟨dx4,d4,[],room,0,0,0,0,none,none,[]⟩) nk;replace F:=And.intro (kG S F) (kI S' (Rn.new e g));replace S:=S.and S';refine sq fun R hR=>⟨_,rfl,_,rfl,fun p5 dx5 n m _=>⟨p5,dx5,(room:Int),reach,rfl,aj,fun d5 I hd e g bt=>⟨rfl,_,rfl,k,_,dk,_,rfl,(Cs.s n m bt) _ _ C4.o,T.jK,T.ac4,tb_g%,C4.next n m bt (fun z=>by rw[e]at z;cases z) fun G5 C5 nk kI kG=>hR _ _ ?_⟩⟩⟩;have v5:=C4.free hd;have S':=(⟨fun h s=>h.same s,fun h b o=>h.but b o nk⟩:Sta k fun G=>Wn A G p5 dx5 d5 room reach 0 []);replace F:=And.intro (kG S F) (kI S' ⟨e,⟨g,fun _ h=>(nomatch h)⟩⟩);replace S:=S.and S';refine sq fun R hR=>⟨_,rfl,fun p6 dx6 n m _=>⟨p6,dx6,(room:Int),rfl,aj,fun d6 I hd e g bt=>⟨rfl,_,rfl,k,_,dk,_,rfl,(Cs.s n m bt) _ _ C5.o,T.jK,T.ac5,tb_g%,C5.next n m bt (fun z=>by rw[e]at z;cases z) fun G6 C6 nk kI kG=>hR _ _ ?_⟩⟩⟩;have v6:=C5.free hd;have S':=(⟨fun h s=>h.same s,fun h b o=>h.but b o nk⟩:Sta k fun G=>Dn A G p6 dx6 d6 room 0 0 (srt (My.up 0 [])));replace F:=And.intro (kG S F) (kI S' ⟨e,by rwa[show srt (My.up 0 [])=[]from BX.mp (eG _)]⟩);replace S:=S.and S';refine⟨_,rfl,fun p7 dx7 n m _=>⟨p7,dx7,span,rfl,aj,fun d7 I _ e bt=>⟨rfl,_,rfl,k,_,dk,_,rfl,(Cs.s n m bt) _ _ C6.o,T.jK,T.ac6,tb_g%,C6.next n m bt (fun z=>by rw[e.o]at z;cases z) fun G7 C7 nk kI kG=>?_⟩⟩⟩;have S':=(⟨fun h s=>h.same s,fun h b o=>h.but b o nk⟩:Sta k fun G=>Bn A G p7 dx7 d7 span ail);replace F:=And.intro (kG S F) (kI S' e);obtain⟨⟨⟨⟨⟨⟨F1,F2⟩,F3⟩,F4⟩,F5⟩,F6⟩,F7⟩:=F;have o7:=C7.o;rw[avu]at o7;refine q ⟨k,dk,room,reach,span,⟨p1,dx1,d1,0,0,[]⟩,⟨p2,dx2,d2,0,0,[]⟩,⟨p3,⟨dx3,d3,[],room,0,0,0,0,none,none,[]⟩⟩,⟨p4,⟨dx4,d4,[],room,0,0,0,0,none,none,[]⟩⟩,⟨p5,dx5,d5,0,[]⟩,⟨p6,dx6,d6,0,0,[]⟩,⟨p7,dx7,d7,ail⟩⟩ G7 ⟨o7,F1,F2,F3,F4,F5,F6,F7,C7.nd⟩
   #[rfl,rfl,rfl,#[rfl,rfl,rfl],#[rfl,rfl,rfl],#[rfl,rfl,rfl,rfl,rfl,rfl,rfl,rfl],#[rfl,rfl,rfl,rfl,rfl,rfl,rfl,rfl],#[rfl,rfl],#[rfl,rfl,rfl],rfl] rfl C7.fr (fun b m=>?_) C7.b
  unfold KS.ems at m;simp only[aP,bH,jc,or_false]at m;rcases m with rfl|rfl|rfl|rfl;all_goals assumption
def spMix:Sp:=fun vs H Q _=>Ex3 fun c f p=>uV (vs=[.int c,.int f,.int p]) (0<f) (f<2 ^ 64) (0<p) (Q (.int (c*f % p)) H)
theorem adn(T:Tx K mg A):FnK P w base T.aaU CX0 1 spMix:=by
 k_dat (T.aaU,T.aaU.ok,aoT) "f"
 ·obtain⟨c,f,p,rfl,f0,f1,p0,q⟩:=h
  walk_at "t"
  show#[_,rfl,_,rfl,_,_,rfl,rfl,dR tb_g% f1,_,rfl,_,_,rfl,rfl,p0,q]
def ag3:Nat->Int
 |0=>770093176312745717
 |n+1=>ag3 n*(2-770093176312745717*ag3 n) % 1152921504606846976
theorem ao9:∀n,0<=ag3 n/\ag3 n<1152921504606846976
 |0=>by decide
 |_+1=>#[sS _ tb_g%,sO _ tb_g%]
def spFar:Sp:=fun vs H Q _=>vs=[]/\Q (.int (ag3 5)) H
theorem Vw(T:Tx K mg A):FnK P w base T.iY CX0 1 spFar:=by
 k_dat (T.iY,T.iY.ok,Cp) "f"
 ·obtain⟨rfl,q⟩:=h;show#[_,by k_dat ([],[Cp.nd,V6 rfl T.ah8 ?_],[]) "p",?_]
  k_dat lq "c"
  show#[5,rfl,tb_g%,tb_g%,?_];refine V7 (fun i σ G=>∃(y:Option V),σ=[some (.int (ag3 i)),y]/\G=H) #[none,rfl,rfl] ?_ ?_
  ·rintro i σ G hi ⟨y,rfl,rfl⟩;have:=ao9 i;show#[_,rfl,_,rfl,_,_,rfl,rfl,af3 tb_g% tb_g%,_,_,rfl,rfl,_,_,rfl,rfl,af3 tb_g% tb_g%,_,_,rfl,rfl,(by show(0:Int)<1152921504606846976;decide),_,rfl,rfl]
  ·rintro σ G ⟨y,rfl,rfl⟩;show#[_,rfl,q]
def thF(c:Int):Int:=if c % 4<2 then c / 4 % (if c % 4=0 then 7 else 60)else if c % 4=2 then c / 4*2862933555777941757 % 1152921504606846976 else(1+c / 4 % 40)*2 ^ (c / 160 % 50).toNat*ag3 5 % 1152921504606846976
theorem arY(c:Int):0<=thF c/\thF c<1152921504606846976:=by
 unfold thF;split
 ·split <;> lia
 ·split
  ·show#[sS _ tb_g%,sO _ tb_g%]
  ·show#[sS _ tb_g%,sO _ tb_g%]
def apa:Sp:=fun vs H Q _=>∃c:Int,vs=[.int c]/\∀H',Same H H'->Q (.int (thF c)) H'
theorem Vx(T:Tx K mg A):FnK P w base T.wR CX0 2 apa:=by
 k_dat (T.wR,T.wR.ok,Cq) "f"
 ·obtain⟨c,rfl,q⟩:=h;unfold thF at q;show#[_,by k_dat ([aur],[Cq.nd,ana (Vw T).2 tb_g% rfl T.iY.g T.iY.kp T.iY.b .nil ahD],[]) "p",?_]
  k_dat lq "c"
  show#[_,rfl,_,_,rfl,rfl,(by show(0:Int)<4;decide),?_]
  k_dat lqg "c"
  show#[_,rfl,_,_,rfl,rfl,_,rfl,dh (fun h=>?_) (fun h=>?_)]
  ·have h:c % 4<2:=mS h;simp only[mI h]at q;show#[_,rfl,_,_,rfl,rfl,#[tb_g%,tb_g%],tb_g%,fun p hp=>#[_,rfl,?_]];have e:atI ([7,60].map V.int) (c % 4)=some (.int (if c % 4=0 then 7 else 60)):=by
    rcases(show c % 4=0\/c % 4=1 by lia)with z|z <;> rw[z] <;> rfl
   refine dF (.inl (.inl aj)) (v:=.int (if c % 4=0 then 7 else 60)) e #[_,_,rfl,rfl,(by show(0:Int)<(if c % 4=0 then 7 else 60);split <;> decide),?_];exact q _ (Same.new hp)
  have h:¬ c % 4<2:=fun z=>h (mP z);simp only[mB h]at q;show#[_,rfl,rfl,_,rfl,dh (fun h=>?_) (fun h=>?_)]
  ·k_dat ld "c"
   have h:c % 4=2:=V.int.inj (mS h);simp only[mI h]at q;show#[_,rfl,_,_,rfl,rfl,#[tb_g%,tb_g%],_,_,rfl,rfl,dR tb_g% tb_g%,_,_,rfl,rfl,(by show(0:Int)<1152921504606846976;decide),q _ (Same.refl H)]
  ·have h:¬ c % 4=2:=fun z=>h (mP (mN V.int z));simp only[mB h]at q;have fb:=ao9 5;show#[_,rfl,_,_,rfl,rfl,#[tb_g%,tb_g%],_,_,rfl,rfl,(by show(0:Int)<40;decide),_,_,rfl,rfl,_,rfl,_,_,rfl,rfl,#[tb_g%,tb_g%],_,_,rfl,rfl,(by show(0:Int)<50;decide),_,_,rfl,rfl,#[by lia,by lia,?_],?_]
   ·lia
   show#[_,rfl,rfl,_,_,rfl,rfl,dR tb_g% tb_g%,_,_,rfl,rfl,(by show(0:Int)<1152921504606846976;decide),q _ (Same.refl H)]
def wtF(c:Int):Int:=if c % 5=0 then 1+c / 5*48271 % 1000000000000 else 1+c / 5 % 12
theorem arZ(c:Int):1<=wtF c/\wtF c<=1000000000000:=by
 unfold wtF;split
 ·have:=sS (c / 5*48271) (show(1000000000000:Int)≠0 by decide);have:=sO (c / 5*48271) (show(0:Int)<1000000000000 by decide);lia
 ·lia
def ajK:Sp:=fun vs H Q _=>∃c:Int,vs=[.int c]/\Q (.int (wtF c)) H
theorem T5(T:Tx K mg A):FnK P w base T.tW CX0 1 ajK:=by
 k_dat (T.tW,T.tW.ok,Tv) "f"
 ·obtain⟨c,rfl,q⟩:=h;unfold wtF at q
  walk_at "t"
  k_dat (5,h) "o"
  ·rw[mI (V.int.inj (mS h))]at q
   k_dat ld "c"
   show#[_,rfl,_,_,rfl,rfl,#[tb_g%,tb_g%],_,_,rfl,rfl,dR tb_g% tb_g%,_,_,rfl,rfl,(by show(0:Int)<1000000000000;decide),_,_,rfl,rfl,q]
  ·rw[mB fun z=>h (mP (mN V.int z))]at q;show#[_,rfl,_,_,rfl,rfl,#[tb_g%,tb_g%],_,_,rfl,rfl,(by show(0:Int)<12;decide),_,_,rfl,rfl,q]
structure R3 where
 (kd th w:Int)
structure R3.ok(r:R3):Prop where
 k0:0<=r.kd
 k2:r.kd<=2
 t0:0<=r.th
 t1:r.th<1152921504606846976
 w1:1<=r.w
 w2:r.w<=1000000000000
def r3V(r:R3):HO:=.tup [.int r.kd,.int r.th,.int r.w]
def kdF(c:Int):Int:=if c % 7<4 then 0 else if c % 7<6 then 1 else 2
def apb(c:Int):R3:=#[kdF c,thF (c*6364136223846793005 % 18446744073709551557),wtF (c*69621 % 2147483629)]
theorem aio(c:Int):(apb c).ok:=by
 show#[?_,?_,(arY _).1,(arY _).2,(arZ _).1,(arZ _).2]
 ·show 0<=kdF c;unfold kdF;split <;> (try split) <;> decide
 ·show kdF c<=2;unfold kdF;split <;> (try split) <;> decide
def ard:Sp:=fun vs H Q _=>∃c:Int,vs=[.int c]/\∀t H',H t=none->H' t=some (r3V (apb c))->Same H H'->Q (.ref t) H'
theorem ado(T:Tx K mg A):FnK P w base T.Es CX0 3 ard:=by
 k_dat (T.Es,T.Es.ok,Lr) "f"
 ·obtain⟨c,rfl,q⟩:=h;show#[_,by k_dat ([],[Lr.nd,aB (adn T) ?_,aB (Vx T) ?_,aB (T5 T) ?_],[]) "p",?_]
  k_dat lq "c"
  show#[tb_g%,fun p hp=>#[_,rfl,_,_,rfl,rfl,(by show(0:Int)<7;decide),?_]];have e:atI ([0,0,0,0,1,1,2].map V.int) (c % 7)=some (.int (kdF c)):=by
   unfold kdF;rcases(show c % 7=0\/c % 7=1\/c % 7=2\/c % 7=3\/c % 7=4\/c % 7=5\/c % 7=6 by lia)with z|z|z|z|z|z|z <;> rw[z] <;> rfl
  refine dF (.inl (.inl aj)) (v:=.int (kdF c)) e ?_
  k_dat (nwA hp,H1,s1,fH1) "n"
  show#[_,rfl,c,6364136223846793005,18446744073709551557,rfl,tb_g%,tb_g%,tb_g%,c*6364136223846793005 % 18446744073709551557,rfl,fun H2 s2=>?_];show#[_,rfl,c,69621,2147483629,rfl,tb_g%,tb_g%,tb_g%,c*69621 % 2147483629,rfl,?_];show#[_,rfl,_,rfl,_,rfl,tb_g%,fun t ht=>q t _ ((s1.trans s2).free ht) aj (s1.trans (s2.trans (Same.new ht)))]
def arf:Sp:=fun vs H Q _=>∃c:Int,vs=[.int c]/\∀(t:Addr)(room:Nat)(reach span:Int)(H':Hp),2<=room->room<=64->room % 2=0->(room<=15\/room=64)->(1<=reach/\reach<=1000000000)->(1<=span/\span<=1000000000)->H' t=some (.tup [.int room,.int reach,.int span])->Same H H'->Q (.ref t) H'
theorem rooms{v:Int}(h:v∈[2,4,2,6,8,64]):∃r:Nat,v=r/\2<=r/\r<=64/\r % 2=0/\(r<=15\/r=64):=by
 simp only[aP,jc,or_false]at h;show#[v.toNat,by lia,by lia,by lia,by lia,by lia]
theorem Vy(T:Tx K mg A):FnK P w base T.wU CX0 1 arf:=by
 k_dat (T.wU,T.wU.ok,Cr) "f"
 ·obtain⟨c,rfl,q⟩:=h;show#[_,by k_dat ([],[Cr.nd],[]) "p",?_]
  k_dat lq "c"
  show#[tb_g%,fun p hp=>#[_,rfl,_,_,rfl,rfl,(by show(0:Int)<6;decide),?_]];obtain⟨rv,hrv,e⟩:=aam (ns:=[2,4,2,6,8,64]) (i:=c % 6) tb_g% (by show c % 6<6;lia);obtain⟨room,rfl,r2,r64,ev,rr⟩:=rooms hrv;refine dF (.inl (.inl aj)) (v:=.int room) e ?_
  k_dat (nwA hp,H1,s1,fH1) "n"
  k_dat lqg "c"
  show#[_,rfl,_,_,rfl,rfl,#[tb_g%,tb_g%],_,_,rfl,rfl,(by show(0:Int)<9;decide),_,_,rfl,rfl,_,rfl,_,_,rfl,rfl,#[tb_g%,tb_g%],_,_,rfl,rfl,(by show(0:Int)<1000000;decide),_,_,rfl,rfl,tb_g%,fun p2 hp2=>#[_,rfl,_,_,rfl,rfl,#[tb_g%,tb_g%],_,_,rfl,rfl,(by show(0:Int)<3;decide),?_]];obtain⟨reach,hre,e2⟩:=aam (ns:=[1000000000,1+c / 6 % 9,1+c / 6 % 1000000]) (i:=c / 6 % 3) tb_g% (by show c / 6 % 3<3;lia);refine dF (.inl (.inl aj)) (v:=.int reach) e2 ?_
  k_dat (nwA hp2,H2,zH2,fH2) "n"
  have s2:=s1.trans zH2;show#[_,rfl,_,_,rfl,rfl,#[tb_g%,tb_g%],_,_,rfl,rfl,(by show(0:Int)<9;decide),_,_,rfl,rfl,tb_g%,fun p3 hp3=>#[_,rfl,_,_,rfl,rfl,#[tb_g%,tb_g%],_,_,rfl,rfl,(by show(0:Int)<3;decide),?_]];obtain⟨span,hsp,e3⟩:=aam (ns:=[1+c / 18 % 9,60,1000000000]) (i:=c / 18 % 3) tb_g% (by show c / 18 % 3<3;lia);refine dF (.inl (.inl aj)) (v:=.int span) e3 ?_
  k_dat (nwA hp3,H3,zH3,fH3) "n"
  have s3:=s2.trans zH3;simp only[aP,jc,or_false]at hre hsp;show#[_,rfl,_,rfl,_,rfl,tb_g%,fun t ht=>q t room reach span _ r2 r64 ev rr tb_g% tb_g% aj (s3.trans (Same.new ht))]
def SR(r:R3)(x x':KS):Prop:=if r.kd=0 then SP r.th r.w x x' else if r.kd=1 then ST r.th r.w x x' else SI r.w x x'
theorem SR.sb(h:SR r x x'):SB x x':=by
 unfold SR at h;split at h
 ·exact h.sb
 ·split at h
  ·exact h.sb
  ·exact h.sb
theorem Eqp.row(e:Eqp x y)(a:SR r x x')(b:SR r y y'):Eqp x' y':=by
 unfold SR at a b;split at a
 ·rename_i h;rw[mI h]at b;exact e.put a b
 ·rename_i h;rw[mB h]at b;split at a
  ·rename_i h;rw[mI h]at b;exact e.take a b
  ·rename_i h;rw[mB h]at b;exact e.idle a b
theorem Kh.row{r:R3}(h:Kh x n)(hn:n<63)(ok:r.ok)(s:SR r x x'):Kh x' (n+1):=by
 unfold SR at s;split at s
 ·exact h.put hn s ok.w1 ok.w2
 ·split at s
  ·exact h.take hn s ok.w1 ok.w2
  ·exact h.idle hn s
def avA(A:Ad):Sp:=fun vs H Q _=>Ex4 fun x n t r=>Nr (vs=[.ref x.k,.ref t]) (Kp A H x) (Kh x n) (n<63) (H t=some (r3V r)) r.ok (∀x' H',Kp A H' x'->SR r x x'->Far A x.pts H H'->Em H x x'->Q .non H')
theorem ajL(T:Tx K mg A):FnK P w base T.Td CX0 8 (avA A):=by
 k_dat (T.Td,T.Td.ok,ajz) "f"
 ·obtain⟨x,n,t,r,rfl,hK,hG,hn,ht,ok,q⟩:=h;unfold r3V at ht;unfold SR at q;show#[_,by k_dat ([],[cI ?_ T.jK (Ny T) ?_,cI ?_ T.jK (KD T) ?_,cI ?_ T.jK (KH T) ?_],[]) "p",?_];show#[_,rfl,jm (.inl (.inl ht)) (v:=.int r.kd) rfl #[rfl,_,rfl,dh (fun h=>?_) (fun h=>?_)]]
  ·have h:r.kd=0:=V.int.inj (mS h);simp only[mI h]at q;show#[_,rfl,x.k,x.dk,_,rfl,hK.o,kfN tb_g%,_,rfl,jm (.inl (.inl ht)) (v:=.int r.th) rfl #[_,rfl,jm (.inl (.inl ht)) (v:=.int r.w) rfl #[x,n,r.th,r.w,rfl,hK,hG,hn,ok.t0,ok.t1,ok.w1,ok.w2,q]]]
  have h:¬ r.kd=0:=fun z=>h (mP (mN V.int z));simp only[mB h]at q;show#[_,rfl,jm (.inl (.inl ht)) (v:=.int r.kd) rfl #[rfl,_,rfl,dh (fun h2=>?_) (fun h2=>?_)]]
  ·have h2:r.kd=1:=V.int.inj (mS h2);simp only[mI h2]at q;show#[_,rfl,x.k,x.dk,_,rfl,hK.o,kfN tb_g%,_,rfl,jm (.inl (.inl ht)) (v:=.int r.th) rfl #[_,rfl,jm (.inl (.inl ht)) (v:=.int r.w) rfl #[x,n,r.th,r.w,rfl,hK,hG,hn,ok.t0,ok.t1,ok.w1,ok.w2,q]]]
  ·have h2:¬ r.kd=1:=fun z=>h2 (mP (mN V.int z));simp only[mB h2]at q;show#[_,rfl,x.k,x.dk,_,rfl,hK.o,kfN tb_g%,_,rfl,jm (.inl (.inl ht)) (v:=.int r.w) rfl #[x,n,r.w,rfl,hK,hG,q]]
def apc(A:Ad):Sp:=fun vs H Q _=>Ex8 fun(p dx d p' dx' d':Addr) (room:Nat) (t:Int)=>Ex5 fun(l t' l':Int) (c c':Tab)=>qT (vs=[.ref p,.ref p']) (H p=some (.ins A.C'3 dx (fl room t l d))) (H d=some (.dK (emb c))) (H p'=some (.ins A.C'3 dx' (fl room t' l' d'))) (H d'=some (.dK (emb c'))) ((keys c).Nodup) ((∀p∈c,1<=p.2)) (uU ((∀p∈c',1<=p.2)) ((kY c c').length<64) (c.length+c'.length<=900) (∀(x dxx e:Addr)(b:Tab)(cut:Int)(H':Hp),H x=none->H e=none->eF room (kY c c') b cut->H' x=some (.ins A.C'3 dxx (fl room (t+t') (l+l'+cut) e))->H' e=some (.dK (emb b))->Same H H'->Q (.ref x) H'))
theorem ajM{c d:Tab}{i:Nat}{p:Int × Int}(h:d[i]? = some p):kY c (d.take (i+1))=put (kY c (d.take i)) p.1 (low (kY c (d.take i)) p.1+p.2):=by
 rw[take_snoc h,aiZ]
theorem Fe(T:Tx K mg A):FnK P w base T.j8 CX0 3 (apc A):=by
 k_dat (T.j8,T.j8.ok,qP) "f"
 ·obtain⟨p,dx,d,p',dx',d',room,t,l,t',l',c,c',rfl,hp,hd,hp',hd',hn,pos,pos',h64,h900,q⟩:=h;show#[_,by k_dat ([],[qP.nd,f9 T.afC T.S5 (uZ T) ?_,gO QX (by rfl) T.agU alX ?_,abX tb_g% ?_ ?_ ?_ ⟨rfl,rfl,rfl,rfl⟩,ahG Zz rfl ?_ ⟨rfl,rfl⟩ ?_ ?_,cI ?_ T.uO (yF T) ?_],[]) "p",?_]
  k_dat lq "c"
  k_dat (hp,xP,hp') "r"
  show#[_,rfl,rdG hp (xP T) fun x dxx nx ndx nex=>?_];show#[x,dxx,_,rfl,aj,fun e0 H1 he0 e1 e2 bt=>#[rfl,?_]]
  k_dat lqg "c"
  have s0:Same H (upd (upd H dxx (.own x)) x (.ins A.C'3 dxx [])):=fun b o e=>by
   rwa[ao (ak e nx),ao (ak e ndx)]
  have s1:Same H H1:=fun b o e=>bt b o (s0 b o e) (ak e nx);have nx1:∀b o,H b=some o->b≠x:=fun b o e=>ak e nx;show#[_,rfl,rdG (s1 _ _ hp) (uY T) #[_,rfl,rdG (s1 _ _ hp') (uY T) #[_,_,rfl,rfl,_,rfl,x,_,dxx,_,rfl,e1,T.uO,T.S6,tb_g%,?_]]];rw[aa4];have k2:∀b o,H b=some o->∀u,(upd H1 x u) b=some o:=fun b o e u=>by rw[ao (nx1 b o e)];exact s1 _ _ e
  show#[_,rfl,rdG (k2 _ _ hp _) (Bt T) #[_,rfl,rdG (k2 _ _ hp' _) (Bt T) #[_,_,rfl,rfl,_,rfl,x,_,dxx,_,rfl,aj,T.uO,T.S7,tb_g%,?_]]];rw[aa5,cA]
  k_dat lqn "c"
  show#[_,rfl,rdG (k2 _ _ hp _) (jH T) #[d,emb c,rfl,.inl (k2 _ _ hd _),fun g hg=>?_]]
  k_dat lqg "c"
  have ngx:x≠g:=fun z=>by rw[<-z,aj]at hg;cases hg
  have ng:∀b o,H b=some o->b≠g:=fun b o e z=>by rw[<-z,k2 _ _ e]at hg;cases hg
  have k3:∀b o,H b=some o->(upd (upd H1 x (.ins A.C'3 dxx (fl room (t+t') (l+l') e0))) g (.dK (emb c))) b=some o:=fun b o e=>by rw[ao (ng b o e)];exact k2 b o e _
  show#[_,rfl,rdG (k3 _ _ hp') (jH T) #[d',emb c',rfl,k3 _ _ hd',fun o wm=>Wq (fun i σ H2=>Ex2 fun (y z:Option V)=>uV (σ=[some (.ref p),some (.ref p'),some (.ref x),some (.ref g),y,z]) (H2 d'=some (.frz o (.dK (emb c')))) (H2 g=some (.dK (emb (kY c (c'.take i))))) (H2 x=some (.ins A.C'3 dxx (fl room (t+t') (l+l') e0))) ((∀ b u,H b=some u->b≠d'->H2 b=some u)))
   #[none,none,rfl,aj,?_,?_,fun b u e hb=>by rw [ao hb];exact k3 b u e] (fun i σ H2 ⟨_,_,_,h,_,_,_⟩=>h) ?_ ?_]]
  ·rw[ao (aL (ng _ _ hd')),aj];rfl
  ·rw[ao (aL (nx1 _ _ hd')),ao ngx,aj]
  ·rintro i pp t2 σ H2 hi ⟨y,z,rfl,f1,f2,f3,f4⟩ ht
   k_dat (pr,hpr,anB,hi) "z"
   have m1:∀b u,H2 b=some u->(upd H2 t2 (.tup [.int pr.1,.int pr.2])) b=some u:=fun b u e=>by rwa[ao (ak e ht)]
   show#[t2,_,rfl,.inl (.inl aj),rfl,_,_,rfl,_,_,rfl,rfl,?_];show#[_,rfl,g,rfl,.inl #[_,.inl (m1 _ _ f2)],_,rfl,_,arQ (.inl (m1 _ _ f2)),?_];rw[ahK];have hz:(emb (kY c (c'.take i))).length<sizeLine:=by
    rw[wB];have:=zY (c'.take i) c;rw[eX]at this;exact aJ tb_g%
   show#[_,rfl,_,_,rfl,rfl,_,rfl,_,rfl,af2 (m1 _ _ f2) hz ?_];rw[Gk,<-ajM hpr];have ngd:d'≠g:=ng _ _ hd';show#[_,_,rfl,by rw[ao ngd];exact m1 _ _ f1,aj,by rw[ao ngx];exact m1 _ _ f3,fun b u e hb=>by rw[ao (ng b u e)];exact m1 _ _ (f4 b u e hb)]
  ·rintro σ H2 ⟨y,z,rfl,f1,f2,f3,f4⟩;rw[wB,jC]at f2;show#[d',emb c',o,wm,f1,?_];have ngd:g≠d':=aL (ng _ _ hd');have nxd:x≠d':=aL (nx1 _ _ hd');have f2':(upd H2 d' (.dK (emb c'))) g=some (.dK (emb (kY c c'))):=by rwa[ao ngd]
   have f3':(upd H2 d' (.dK (emb c'))) x=some (.ins A.C'3 dxx (fl room (t+t') (l+l') e0)):=by rwa[ao nxd]
   have f4':Same H (upd H2 d' (.dK (emb c'))):=fun b u e=>by
    by_cases hb:b=d'
    ·subst hb;rw[aj,<-e,hd']
    ·rw[ao hb];exact f4 b u e hb
   show#[_,rfl,x,dxx,_,rfl,f3',aik _ _ _ _ tb_g% tb_g% tb_g% tb_g%,_,rfl,x,dxx,g,e0,room,t+t',l+l',kY c c',rfl,f3',f2',Bh _ hn,Q6 _ pos pos',h64,fun e' b' cut H3 n3 fit g3 g4 bt3=>?_];show#[_,rfl,q x dxx e' b' cut H3 nx (f4'.free n3) fit g3 g4 fun b u e=>bt3 b u (f4' b u e) (nx1 b u e)]
def apd:Sp:=fun vs H Q _=>Ex4 fun(a:Addr) (bs:List Addr) (ls:RG.Ls) (i:Nat)=>mV (vs=[.ref a,.int (i:Int)]) (LL H a bs ls) (∀(c:Addr)(H':Hp),H' c=some (.lst ((ls.getD i []).map V.int))->Same H H'->Q (.ref c) H')
theorem ag4(T:Tx K mg A):FnK P w base T.Ke CX0 1 apd:=by
 k_dat (T.Ke,T.Ke.ok,agW) "f"
 ·obtain⟨a,bs,ls,i,rfl,hL,q⟩:=h;show#[_,by k_dat ([QJ],[],[]) "p",?_];show#[_,rfl,_,rfl,cM (.inl (.inl hL.o)) #[_,_,rfl,rfl,_,rfl,dh (fun h=>?_) (fun h=>?_)]]
  ·have hi:i<ls.length:=by
    have:=mS h;rw[aD,hL.n]at this;lia
   obtain⟨b,l,eb,el,hb⟩:=hL.at hi;show#[_,rfl,_,rfl,dF (.inl (.inl hL.o)) (v:=.ref b) (LL.ix eb) (q b H ?_ (Same.refl _))];rwa[ug,el]
  ·have hi:ls.length<=i:=by
    have:¬ (i:Int)<((bs.map V.ref).length:Int):=fun z=>h (mP z);rw[aD,hL.n]at this;lia
   show#[tb_g%,fun c hc=>q c _ ?_ (Same.new hc)];rw[ug,Fv hi];exact aj
def arh(A:Ad):Sp:=fun vs H Q _=>Ex8 fun p dx a p' dx' a' bs bs'=>Ex8 fun r tt ov un tn tt' ov' un'=>Ex7 fun tn' mi ma mi' ma' ls ls'=>qT (vs=[.ref p,.ref p']) (Rn A H p dx a bs r tt ov un tn mi ma ls) (Rn A H p' dx' a' bs' r tt' ov' un' tn' mi' ma' ls') (2<=r) (r<=64) (ls.length<=400) (ls'.length<=400) (uV ((∀k∈RG.join ls ls',k.length<=63)) (((∀k∈RG.join ls ls',k.length<=31)\/∀k∈RG.join ls ls',(k.length:Int)<=r)) (RG.val ls<2 ^ 400) (RG.val ls'<2 ^ 400) (∀z dz g cs out tn2 ov2 un2 H',RG.Stl r 0 (tn+tn') (ov+ov') (un+un') (RG.join ls ls') out tn2 ov2 un2->Rn A H' z dz g cs r (tt+tt') ov2 un2 tn2 (lo2 mi mi') (hi2 ma ma') out->H z=none->H g=none->(∀c∈cs,H c=none)->Same H H'->Q (.ref z) H'))
theorem Nz(T:Tx K mg A):FnK P w base T.qI CX0 5 (arh A):=by
 k_dat (T.qI,T.qI.ok,yx) "f"
 ·obtain⟨p,dx,a,p',dx',a',bs,bs',r,tt,ov,un,tn,tt',ov',un',tn',mi,ma,mi',ma',ls,ls',rfl,hR,hS,r2,r64,l4,l4',jb,j6,v1,v2,q⟩:=h;show#[_,by (k_dat ([hdA],[yx.nd,f9 T.afz T.ahY (Cw T) ?_,aB (Xh T) ?_,aB (TV T) ?_,dj (V9 rfl) (by rfl) T.ac7 alY ?_,V6 rfl T.ah8 ?_,aB (ag4 T) ?_,dj (iV rfl) (by rfl) T.kE La ?_,cI ?_ T.fU (yE T) ?_],[]) "p"; k_dat iH "h"; k_dat iH "h"; k_dat iH "h"; k_dat iH "h"; k_dat zV "h"),?_]
  k_dat lq "c"
  k_dat (hR.o,xq,hS.o) "r"
  show#[_,rfl,rdG hR.o (xq T) fun z dz nz ndz nez=>?_];show#[z,dz,_,rfl,aj,fun e0 H1 he0 o1 f1 bt=>#[rfl,?_]]
  k_dat lqg "c"
  have s1:Same H H1:=fun b o e=>bt b o (by rwa[ao (ak e nz),ao (ak e ndz)]) (ak e nz);have k1:∀u:HO,Same H (upd H1 z u):=fun u b o e=>by rw[ao (ak e nz)];exact s1 _ _ e
  have R1:=hR.same s1;have R2:=hS.same s1;show#[_,rfl,rdG R1.o (fH T) #[_,rfl,rdG R2.o (fH T) #[_,_,rfl,rfl,_,rfl,z,_,dz,_,rfl,o1,T.fU,T.agP,tb_g%,?_]]];rw[xu];have R1:=hR.same (k1 (.ins A.C'0 dz (rg (.int r) (.int (tt+tt')) (.int 0) (.int 0) (.int 0) .non .non (.ref e0))));have R2:=hS.same (k1 (.ins A.C'0 dz (rg (.int r) (.int (tt+tt')) (.int 0) (.int 0) (.int 0) .non .non (.ref e0))));show#[_,rfl,rdG R1.o (xr T) #[_,rfl,rdG R2.o (xr T) #[_,_,rfl,rfl,_,rfl,z,_,dz,_,rfl,aj,T.fU,T.agQ,tb_g%,?_]]];rw[Aw];rw[cA];have R1:=hR.same (k1 (.ins A.C'0 dz (rg (.int r) (.int (tt+tt')) (.int (ov+ov')) (.int 0) (.int 0) .non .non (.ref e0))));have R2:=hS.same (k1 (.ins A.C'0 dz (rg (.int r) (.int (tt+tt')) (.int (ov+ov')) (.int 0) (.int 0) .non .non (.ref e0))));show#[_,rfl,rdG R1.o (qU T) #[_,rfl,rdG R2.o (qU T) #[_,_,rfl,rfl,_,rfl,z,_,dz,_,rfl,aj,T.fU,T.agR,tb_g%,?_]]];rw[xG];rw[cA];have R1:=hR.same (k1 (.ins A.C'0 dz (rg (.int r) (.int (tt+tt')) (.int (ov+ov')) (.int (un+un')) (.int 0) .non .non (.ref e0))));have R2:=hS.same (k1 (.ins A.C'0 dz (rg (.int r) (.int (tt+tt')) (.int (ov+ov')) (.int (un+un')) (.int 0) .non .non (.ref e0))));show#[_,rfl,rdG R1.o (jq T) #[_,rfl,rdG R2.o (jq T) #[_,_,rfl,rfl,_,rfl,z,_,dz,_,rfl,aj,T.fU,T.Lj,tb_g%,?_]]];rw[pA];rw[cA]
  k_dat lqn "c"
  have s2:=k1 (.ins A.C'0 dz (rg (.int r) (.int (tt+tt')) (.int (ov+ov')) (.int (un+un')) (.int (tn+tn')) .non .non (.ref e0)));have o2:(upd H1 z (.ins A.C'0 dz (rg (.int r) (.int (tt+tt')) (.int (ov+ov')) (.int (un+un')) (.int (tn+tn')) .non .non (.ref e0)))) z=_:=aj;have R1:=hR.same s2;have R2:=hS.same s2;generalize upd H1 z (.ins A.C'0 dz (rg (.int r) (.int (tt+tt')) (.int (ov+ov')) (.int (un+un')) (.int (tn+tn')) .non .non (.ref e0)))=H2 at s2 o2 R1 R2 ⊢;show#[_,rfl,rdG R1.o (mW T) #[_,rfl,rdG R2.o (mW T) #[mi,mi',rfl,fun H3 s3=>#[_,rfl,z,_,dz,_,rfl,s3 _ _ o2,T.fU,T.SJ,tb_g%,?_]]]];rw[xH]
  k_dat (nsA (s2.trans s3) nz,H4,s4,o4) "n"
  have R1:=hR.same s4;have R2:=hS.same s4;show#[_,rfl,rdG R1.o (o9 T) #[_,rfl,rdG R2.o (o9 T) #[ma,ma',rfl,fun H5 s5=>#[_,rfl,z,_,dz,_,rfl,s5 _ _ o4,T.fU,T.SM,tb_g%,?_]]]];rw[Ax]
  k_dat (nsA (s4.trans s5) nz,H6,s6,o6) "n"
  k_dat lqn "c"
  show#[tb_g%,fun g hg=>?_]
  k_dat (nwA hg,H7,s7,f7) "n"
  k_dat lqg "c"
  have n7:H g=none:=s6.free hg;have zg:z≠g:=ak o6 hg;have s07:=s6.trans s7;have R1:=hR.same s07;have R2:=hS.same s07;have na:((bs.map V.ref).length:Int)=(ls.length:Int):=by rw[aD,hR.l.n]
  have nb:((bs'.map V.ref).length:Int)=(ls'.length:Int):=by rw[aD,hS.l.n]
  show#[_,rfl,rdG R1.o (gb T) (cM (.inl (.inl R1.l.o)) #[_,rfl,rdG R2.o (gb T) (cM (.inl (.inl R2.l.o)) #[_,_,rfl,?_])])];rw[na,nb];have em:(if(ls'.length:Int)>(ls.length:Int)then(ls'.length:Int)else(ls.length:Int))=((max ls.length ls'.length:Nat):Int):=by split <;> lia
  rw[em];show#[_,rfl,by lia,by lia,?_];refine V7 (fun i σ G=>Ex2 fun(cs:List Addr) (y:Option V)=>uV (σ=[some (.ref p),some (.ref p'),some (.ref z),some (.ref g),y]) (LL G g cs (RG.uH i ls ls')) (Same H G) (G z=H6 z) (∀c∈cs,H c=none))
   #[[],none,rfl,#[f7,rfl,fun i b l e=>by (cases i <;> cases e),fun z=>nomatch z],s07,(s7 _ _ o6).trans o6.symm,fun _ h=>nomatch h] ?_ ?_
  ·rintro i σ G hi ⟨cs,y,rfl,L,sG,gz,fr⟩;have hi':i<max ls.length ls'.length:=by lia
   have R1:=hR.same sG;have R2:=hS.same sG;have jl:(RG.jn ls ls' i).length<=63:=jb _ (by unfold RG.join RG.uH;exact dH.mpr #[i,CN.mpr hi',rfl]);rw[RG.z9]at jl;show#[_,rfl,.inl #[rfl,_,.inl (.inl L.o)],_,rfl,rdG R1.o (gb T) #[_,rfl,a,bs,ls,i,by rw[Y0];rfl,R1.l,fun c1 G1 f1 t1=>?_]];show#[_,rfl,rdG (R2.same t1).o (gb T) #[_,rfl,a',bs',ls',i,by rw[Y0];rfl,(R2.same t1).l,fun c2 G2 f2 t2=>?_]];show#[c1,c2,_,_,rfl,rfl,t2 _ _ f1,f2,gK (aJ (by rw[aD,aD];lia)),fun c3 hc3=>?_];rw[<-aR]
   k_dat (nwA hc3,G3,t3,f3) "n"
   refine .inr #[c3,_,rfl,.inl (.inl f3),by rw[cu];lia,fun c4 ns hc4 pm so=>?_];obtain rfl:=RG.wF pm so
   k_dat (nwA hc4,G4,t4,f4) "n"
   have t03:=t1.trans (t2.trans t3);have n4:c4≠g:=aL (ak (t03 _ _ L.o) hc4);have N4:H c4=none:=(sG.trans t03).free hc4;have t04:=t03.trans t4;have L4:=L.same t04;have z4:=t04 _ _ (gz.trans o6);have s4:=sG.trans t04;show#[g,_,_,rfl,rfl,L4.o,aJ (by rw[aD,L4.n,RG.Bm];lia),?_];have L5:=L4.app (m:=RG.jn ls ls' i) f4 n4;rw[<-RG.Ec]at L5;show#[_,_,rfl,L5,fun b o e=>by rw[ao (ak e n7)];exact s4 b o e,by rwa[ao zg,o6],fun c hc=>?_];rcases bH.mp hc with y|y
   ·exact fr c y
   ·rwa[bO.mp y]
  ·rintro σ G ⟨cs,y,rfl,L,sG,gz,fr⟩;rw[aeJ]at L;rw[o6]at gz;have jv:RG.val (RG.join ls ls')<2 ^ 500:=by
    rw[RG.acn];have:(2:Nat) ^ 400+2 ^ 400<2 ^ 500:=by decide
    lia
   show#[_,rfl,z,dz,_,rfl,gz,rgN tb_g%,_,rfl,z,dz,g,cs,RG.join ls ls',r,tt+tt',ov+ov',un+un',tn+tn',lo2 mi mi',hi2 ma ma',.ref e0,rfl,gz,L,r2,r64,j6,by rw [RG.jZ];lia,jv,fun g2 bs2 out tn2 ov2 un2 G7 st ng2 L7 o7 b7 _ fr7=>?_];have nz2:∀ c,G c=none->H c=none:=fun c n=>sG.free n;show#[_,rfl,q z dz g2 bs2 out tn2 ov2 un2 G7 st #[o7,L7] nz (nz2 _ ng2) (fun c hc=>by
    rcases fr7 c hc with y|y
    ·exact fr c y
    ·exact nz2 c y) fun b o e=>b7 b o (sG b o e) (ak e nz)]
def shift(c:Int)(b:WN.Box):WN.Box:=#[b.f+c,b.l+c,b.s]
def ag5(A:Ad):Sp:=fun vs H Q _=>Ex8 fun p dx l p' dx' l' r k=>Ex4 fun c c' ps ps'=>Nr (vs=[.ref p,.ref p']) (Wn A H p dx l r k c ps) (Wn A H p' dx' l' r k c' ps') (ps.length+ps'.length<=400) (0<=r) (r<=64) (∀x dxx l2 ps2 H',H x=none->H l2=none->bx ps2=gn r (c+c'-k) (bx ps++(bx ps').map (shift c))->Wn A H' x dxx l2 r k (c+c') ps2->Same H H'->Q (.ref x) H')
theorem ag6{c:Int}{ps:List Bp}{i:Nat}{p:Bp}(h:ps[i]? = some p):(bx (ps.take (i+1))).map (shift c)=(bx (ps.take i)).map (shift c)++[shift c p.2]:=by
 unfold bx;rw[jg,h,aR,aR];rfl
theorem adp(T:Tx K mg A):FnK P w base T.Et CX0 5 (ag5 A):=by
 k_dat (T.Et,T.Et.ok,Aq) "f"
 ·obtain⟨p,dx,l,p',dx',l',r,k,c,c',ps,ps',rfl,hw,hw',h400,r0,r64,q⟩:=h;show#[_,by (k_dat ([hdA,dO],[Aq.nd,f9 T.afA T.acZ (Ay T) ?_,cI ?_ T.uN (lV T) ?_],[jE 3 Aq.nd [("one",~~~s+1)] ["box","one"] [0] (te:=(tTup (Lf (tOp _ (tOp (QW K) _ _) (abP K _ "clock")) (Lf (tOp _ (tOp (QW K) _ _) (abP K _ "clock")) (Lf (tOp (QW K) _ _) aiM))))) ?_ (fun _ _ _ _=>iz) (fun _ _ _ _=>(afQ (bV (ahv iH (QS (ixG tb_g%) (pv 0) JD (fun _ _=>rfl)) (pf 1)) (bV (ahv iH (QS (ixG tb_g%) (pv 0) JD (fun _ _=>rfl)) (pf 1)) (bV (QS (ixG tb_g%) (pv 0) JD (fun _ _=>rfl)) fO)))))]) "p"; k_dat iH "h"; k_dat zV "h"),?_]
  k_dat lq "c"
  k_dat (hw.o,xK,hw'.o) "r"
  k_dat (hw.o,uW,hw'.o) "r"
  show#[_,rfl,rdG hw.o (xK T) #[_,rfl,rdG hw.o (uW T) fun x dxx nx ndx nex=>?_]];show#[x,dxx,r,k,rfl,aj,fun d H1 hd e1 e2 bt1=>#[rfl,?_]];have s1:Same H H1:=fun b o e=>bt1 b o (by rwa[ao (ak e nx),ao (ak e ndx)]) (ak e nx);show#[_,rfl,rdG (s1 _ _ hw.o) (gj T) #[_,rfl,rdG (s1 _ _ hw'.o) (gj T) #[_,_,rfl,rfl,_,rfl,x,_,dxx,_,rfl,e1,T.uN,T.Ln,tb_g%,?_]]];rw[pB]
  k_dat (nsA s1 nx,H2,s2,o2) "n"
  have w2:=hw.same s2;have w2':=hw'.same s2;show#[_,rfl,rdG w2'.o (mX T) #[l',rfl,#[_,.inl (.inl w2'.b.l)],fun D hD=>?_]];refine fZ (K:=K) (a:=l') (xs:=ps'.map fun p=>V.ref p.1) (fun i ys H3=>∃(qs:List Bp),uV (ys=qs.map (fun p=>V.ref p.1)) (bx qs=(bx (ps'.take i)).map (shift c)) ((∀p∈qs,H3 p.1=some (bt p.2))) (H3 D=some (.lst ys)) (Same H2 H3)) #[[],rfl,rfl,(fun p m=>nomatch m),aj,Same.new hD] ?_ ?_ ?_ ?_
  ·rintro i ys H3 hi ⟨qs,rfl,eq,tq,fD,s3⟩;show#[.inl (.inl (s3 _ _ w2'.b.l)),fD,aJ ?_];have:qs.length=(ps'.take i).length:=by rw[<-gk,eq,aD,gk]
   rw[aD,this,eX];lia
  ·rintro i ys H3 y hy ⟨qs,rfl,eq,tq,fD,s3⟩
   k_dat (z,hz,Ou,hy) "z"
   have hzt:=s3 _ _ (w2'.b.t z (mv hz));have w3:=w2.same s3;show#[_,rfl,jm (.inl (.inl hzt)) (v:=.int z.2.f) rfl #[_,rfl,rdG w3.o (gj T) #[_,_,rfl,rfl,?_]]];show#[_,rfl,jm (.inl (.inl hzt)) (v:=.int z.2.l) rfl #[_,rfl,rdG w3.o (gj T) #[_,_,rfl,rfl,?_]]];show#[_,rfl,jm (.inl (.inl hzt)) (v:=.int z.2.s) rfl #[tb_g%,fun t ht=>?_]];have s4:Same H3 (upd H3 t (bt (shift c z.2))):=Same.new ht;have f4:(upd H3 t (bt (shift c z.2))) t=some (bt (shift c z.2)):=aj;show(upd H3 t (bt (shift c z.2))) D=_/\∃qs':List Bp,_;have nD:∀a b,H3 a=some (bt b)->a≠D:=fun a b e=>fP e fD (by intro z;cases z);show#[s4 _ _ fD,qs++[(t,shift c z.2)],by rw[aR];rfl,?_,fun p m=>?_,aj,fun b o e=>?_]
   ·rw[ag6 hz,<-eq];unfold bx;rw[aR];rfl
   ·walk_at "e"
    ·have:=tq p m;rw[ao (nD _ _ this)];exact s4 _ _ this
    ·rw[bO.mp m];have:t≠D:=aL (ak fD ht);rwa[ao this]
   ·rw[ao (ak e hD)];exact s4 _ _ (s3 _ _ e)
  ·rintro ys H3 ⟨qs,rfl,eq,tq,fD,s3⟩;rw[aD,jC]at eq;have s03:=s2.trans s3;have lq:qs.length=ps'.length:=by rw[<-gk,eq,aD,gk]
   show#[_,rfl,x,dxx,_,rfl,s3 _ _ o2,Xi _ _ _ _ tb_g% tb_g% tb_g% tb_g%,?_];show#[_,rfl,rdG (s03 _ _ hw.o) (mX T) #[_,rfl,l,D,_,_,rfl,rfl,s03 _ _ hw.b.l,fD,gK (aJ (by rw[aD,aD];lia)),fun l4 hl4=>?_]]
   k_dat (nwA hl4,H4,s4,fH4) "n"
   have b4:Bxs H4 l4 (ps++qs):=by
    show#[by rw[fH4,aR],fun z m=>?_]
    walk_at "e"
    ·exact s4 _ _ (s03 _ _ (hw.b.t z m))
    ·exact s4 _ _ (tq z m)
   show#[x,dxx,l4,d,r,k,c+c',_,rfl,s4 _ _ (s3 _ _ o2),b4,by rw[cu];lia,r0,r64,fun l5 ps5 H5 e5 w5 b5 n5=>?_];have s04:=s03.trans s4;show#[_,rfl,q x dxx l5 ps5 H5 nx (s04.free n5) ?_ w5 fun b o e=>b5 b o (s04 _ _ e) (ak e nx)];rw[e5];congr 1;unfold bx at eq ⊢;rw[aR,eq]
  ·exact acu (iW (mD (Bq (bW 0) (Ej _)) (uL (bW 1))) (iW (mD (Bq (bW 0) (Ej _)) (uL (bW 1))) (iW (Bq (bW 0) (Ej _)) uK)))
def ajN(A:Ad):Sp:=fun vs H Q _=>Ex8 fun p dx l p' dx' l' s q=>∃q',uU (vs=[.ref p,.ref p']) (Bn A H p dx l s q) (Bn A H p' dx' l' s q') (∀x dxx l2 H',H x=none->Bn A H' x dxx l2 s (addQ q q')->Same H H'->Q (.ref x) H')
theorem Hw(T:Tx K mg A):FnK P w base T.lO CX0 3 (ajN A):=by
 k_dat (T.lO,T.lO.ok,rF) "f"
 ·obtain⟨p,dx,l,p',dx',l',sp,q,q',rfl,hb,hb',k⟩:=h;show#[_,by k_dat ([],[rF.nd,f9 T.afD T.Xc (yH T) ?_,aoe rfl T.ah9 ?_],[Wu (g:=(amU K 2 (FW (mQ 0) (FW (mQ 1) amT)))) 2 [] ["first","second"] [] (fun _ _ _ _=>afF rfl (zT (v8 (i:=0) (show(["first","second"]:List Str).Nodup by decide +kernel) rfl (Or.inl rfl)) (zT (v8 (i:=1) (show(["first","second"]:List Str).Nodup by decide +kernel) rfl (Or.inl rfl)) ZR))) ?_ (fun _ _ _ _=>iz) (fun _ _ _ _=>(ahv iH (pv 0) (pv 1)))]) "p",?_]
  k_dat lq "c"
  k_dat (hb.o,Ox,hb'.o) "r"
  show#[_,rfl,rdG hb.o (Ox T) fun x dxx nx ndx nex=>?_];show#[x,dxx,sp,rfl,aj,fun d H1 hd b1 bt1=>#[rfl,?_]];have s1:Same H H1:=fun b o e=>bt1 b o (by rwa[ao (ak e nx),ao (ak e ndx)]) (ak e nx);show#[_,rfl,rdG (s1 _ _ hb.o) (Bu T) #[_,rfl,rdG (s1 _ _ hb'.o) (Bu T) #[l,l',_,_,rfl,s1 _ _ hb.l,s1 _ _ hb'.l,fun D hD=>?_]]];refine WQ (xs:=(L4 q).map V.int) (ys:=(L4 q').map V.int) (fun i zs H2=>zs=((L4 (addQ q q')).take i).map V.int/\H2 D=some (.lst zs)/\Same H1 H2) #[rfl,aj,Same.new hD] ?_ ?_ ?_ (Rm 0 1) ?_
  ·rintro i zs H2 ⟨rfl,f,s2⟩;show#[s2 _ _ (s1 _ _ hb.l),s2 _ _ (s1 _ _ hb'.l),f,aJ (by rw[aD,eX];show min i 4<=1000;lia)]
  ·rintro i zs H2 u v t ws hu hv ⟨rfl,f,s2⟩ ht hw;obtain⟨w0,w1,rfl⟩:∃w0 w1,ws=[w0,w1]:=#[_,_,aj5 ws hw];have s3:Same H2 (upd H2 t (.tup [u,v])):=Same.new ht;have keep:∀L b o,H1 b=some o->(upd (upd H2 t (.tup [u,v])) D L) b=some o:=fun L b o e=>by rw[ao (ak e hD)];exact s3 _ _ (s2 _ _ e)
   show#[t,_,rfl,.inl (.inl aj),rfl,_,_,rfl,_,_,rfl,rfl,#[[some u,some v],rfl,rfl],?_];rcases lY hu with⟨rfl,rfl⟩|⟨rfl,rfl⟩|⟨rfl,rfl⟩|⟨rfl,rfl⟩
   ·rcases lY hv with⟨_,rfl⟩|⟨h,_⟩|⟨h,_⟩|⟨h,_⟩
    ·show#[_,rfl,_,rfl,_,_,rfl,rfl,s3 _ _ f,rfl,aj,keep _]
    all_goals lia
   ·rcases lY hv with⟨h,_⟩|⟨_,rfl⟩|⟨h,_⟩|⟨h,_⟩
    ·lia
    ·show#[_,rfl,_,rfl,_,_,rfl,rfl,s3 _ _ f,rfl,aj,keep _]
    all_goals lia
   ·rcases lY hv with⟨h,_⟩|⟨h,_⟩|⟨_,rfl⟩|⟨h,_⟩
    ·lia
    ·lia
    ·show#[_,rfl,_,rfl,_,_,rfl,rfl,s3 _ _ f,rfl,aj,keep _]
    ·lia
   ·rcases lY hv with⟨h,_⟩|⟨h,_⟩|⟨h,_⟩|⟨_,rfl⟩
    ·lia
    ·lia
    ·lia
    ·show#[_,rfl,_,rfl,_,_,rfl,rfl,s3 _ _ f,rfl,aj,keep _]
  ·rintro zs H2 ⟨rfl,f,s2⟩;show#[_,rfl,x,_,dxx,_,rfl,s2 _ _ b1.o,T.Vk,T.Lp,tb_g%,?_];rw[rJ];have npl:D≠x:=aL (ak b1.o hD);show#[_,rfl,k x dxx D _ nx #[aj,by rwa[ao npl]] fun b o e=>?_];rw[ao (ak e nx)];exact s2 _ _ (s1 _ _ e)
  ·exact mD (bW 0) (bW 1)
def un(C D:List Int):List Int:=Sx.dd (C++D)
theorem aa6:z∈un C D↔z∈C\/z∈D:=by unfold un;rw[Sx.anP,bH]
theorem ar0(C D:List Int):(un C D).Nodup:=Sx.ace _
theorem ape(C D:List Int):(un C D).length<=C.length+D.length:=by have:=Sx.aag (C++D);rwa[cu]at this
theorem adq{C:List Int}(h:C.Nodup):(up v C).Nodup:=h.filter _
theorem apf{C D:List Int}(nd:C.Nodup)(h:∀z∈C,z∈D):(up v C).length<=(up v D).length:=
 (adq nd).length_le_of_subset fun z m=>qW.mpr #[h z (qW.mp m).1,(qW.mp m).2]
theorem oO.uniq{r v w:Int}(h:oO r v C)(g:oO r w C):v=w:=Lvl.uniq (v:=0) #[h.1,h.2.1,h.2.2] #[g.1,g.2.1,g.2.2]
theorem ari{C:List Int}(h:C.Nodup):(came C k).Nodup:=Sx.Wv h
def arj(A:Ad):Sp:=fun vs H Q _=>Ex8 fun p dx l p' dx' l' r n=>Ex5 fun v n' v' C D=>qT (vs=[.ref p,.ref p']) (Dn A H p dx l r n v (srt (up v C))) (Dn A H p' dx' l' r n' v' (srt (up v' D))) (oO r v C) (oO r v' D) C.Nodup D.Nodup (uU (0<=r) (r<=400) (C.length+D.length<=63) (∀x dxx l2 w H',H x=none->H l2=none->oO r w (un C D)->Dn A H' x dxx l2 r (n+n') w (srt (up w (un C D)))->Same H H'->Q (.ref x) H'))
theorem Fi(T:Tx K mg A):FnK P w base T.j9 CX0 5 (arj A):=by
 k_dat (T.j9,T.j9.ok,qQ) "f"
 ·obtain⟨p,dx,l,p',dx',l',r,n,v,n',v',C,D,rfl,h1,h2,L1,L2',nC,nD,r0,r4,f63,q⟩:=h;show#[_,by (k_dat ([hdA],[qQ.nd,f9 T.afB T.SN (uX T) ?_,dj (V9 rfl) (by rfl) T.ac7 alY ?_,gO (ai8 rfl) (by rfl) T.n_set asr ?_,dj (agl rfl) (by rfl) T.kE La ?_,aB (Lz T) ?_,cI ?_ T.wK (qX T) ?_],[]) "p"; k_dat iH "h"; k_dat zV "h"),?_]
  k_dat lq "c"
  k_dat (h1.o,xM,h2.o) "r"
  show#[_,rfl,rdG h1.o (xM T) fun x dxx nx ndx nex=>?_];show#[x,dxx,r,rfl,L2.aj,fun d H1 hd e1 e2 bt1=>#[rfl,?_]]
  k_dat lqg "c"
  have s1:Same H H1:=fun b o e=>bt1 b o (by rwa[ao (ak e nx),ao (ak e ndx)]) (ak e nx);have v0:=L1.1;have v0':=L2'.1;have v61:=L1.le r0;have v61':=L2'.le r0;show#[_,rfl,rdG (s1 _ _ h1.o) (iQ T) #[_,rfl,rdG (s1 _ _ h2.o) (iQ T) #[_,_,rfl,rfl,_,rfl,x,_,dxx,_,rfl,e1,T.wK,T.SQ,tb_g%,?_]]];rw[oF]
  k_dat (nsA s1 nx,H2,s2,o2) "n"
  show#[_,rfl,rdG (s2 _ _ h1.o) (gq T) #[_,rfl,rdG (s2 _ _ h2.o) (gq T) #[_,_,rfl,_,rfl,x,_,dxx,_,rfl,o2,T.wK,T.SX,tb_g%,?_]]];rw[xO];have hm:v<=(if v'>v then v' else v)/\v'<=(if v'>v then v' else v)/\(if v'>v then v' else v)<=61/\((if v'>v then v' else v)=v\/(if v'>v then v' else v)=v'):=by split <;> lia
  generalize (if v'>v then v' else v)=m at hm ⊢;obtain⟨m1,m2,m61,me⟩:=hm
  k_dat (nsA s2 nx,H3,s3,o3) "n"
  have k1:(srt (up v C)).length<=C.length:=by rw[eG];exact xR _ _
  have k2:(srt (up v' D)).length<=D.length:=by rw[eG];exact xR _ _
  have k3:=Sx.aag (srt (up v C)++srt (up v' D));rw[cu]at k3;show#[_,rfl,x,dxx,_,rfl,o3,ao3 _ _ _ _ tb_g% tb_g% tb_g% tb_g%,?_];show#[_,rfl,rdG (s3 _ _ h1.o) (mF T) #[_,rfl,rdG (s3 _ _ h2.o) (mF T) #[l,l',_,_,rfl,rfl,s3 _ _ h1.l,s3 _ _ h2.l,gK (aJ (by rw[aD,aD];lia)),fun l4 hl4=>?_]]];rw[<-aR]
  k_dat (nwA hl4,H4,zH4,f4) "n"
  have s4:=s3.trans zH4;have o4:=zH4 _ _ o3;show#[l4,_,rfl,.inl (.inl f4),by rw[cu];lia,fun sa hsa=>#[sa,_,rfl,L2.aj,by lia,fun l5 ns hl5 pm so=>?_]];obtain rfl:ns=srt (Sx.dd (srt (up v C)++srt (up v' D))):=wF pm so;have t5:=(Same.new hsa).trans (Same.new (o:=.lst ((srt (Sx.dd (srt (up v C)++srt (up v' D)))).map V.int)) hl5);generalize hH5:upd (upd H4 sa _) l5 (.lst ((srt (Sx.dd (srt (up v C)++srt (up v' D)))).map V.int))=H5 at t5 ⊢;have f5:H5 l5=some (.lst ((srt (Sx.dd (srt (up v C)++srt (up v' D)))).map V.int)):=by rw[<-hH5];exact L2.aj
  have s5:=s4.trans t5;have o5:=t5 _ _ o4;have ln:(srt (Sx.dd (srt (up v C)++srt (up v' D)))).length<=63:=by
   rw[eG];have:=Sx.aag (srt (up v C)++srt (up v' D));rw[cu]at this;lia
  show#[_,rfl,rdG o5 (gq T) #[l5,m,_,rfl,f5,by lia,fun l6 H6 nl6 g6 s6=>?_]];have o6:=s6 _ _ o5;have nS:(srt (Sx.dd (srt (up v C)++srt (up v' D)))).Nodup:=(fC _).nodup_iff.mpr (Sx.ace _);have ks:∀w,m<=w->(up w (up m (srt (Sx.dd (srt (up v C)++srt (up v' D)))))).Perm (up w (un C D)):=fun w hw=>by
   rw[aie hw];refine(aj8 (adq nS) (adq (ar0 C D))).mpr fun z=>?_;rw[qW,qW,mC,Sx.anP,bH,mC,mC,qW,qW,aa6];constructor
   ·rintro⟨a|a,b⟩
    ·show#[.inl a.1,b]
    ·show#[.inr a.1,b]
   ·rintro⟨a|a,b⟩
    ·show#[.inl #[a,by lia],b]
    ·show#[.inr #[a,by lia],b]
  have lu:(up m (srt (Sx.dd (srt (up v C)++srt (up v' D))))).length<=63:=cW (xR _ _) ln;show#[x,dxx,l6,d,r,n+n',m,_,rfl,o6,g6,by lia,r0,by lia,m61,fun z hz=>(qW.mp hz).2,fun l7 w H7 lv dn bt nl7=>#[_,rfl,?_]];have s06:=s5.trans s6;have lw:=lv.1;refine q x dxx l7 w H7 nx (s06.free nl7) #[by lia,?_,fun u u0 uw=>?_] ?_ fun b o e=>bt b o (s06 _ _ e) (ak e nx)
  ·rw[<-(ks w lw).length_eq];exact lv.2.1
  ·rcases(show u<m\/m<=u by lia)with z|z
   ·rcases me with e|e
    ·have:=L1.2.2 u u0 tb_g%;have:=apf (v:=u) nC (D:=un C D) fun z m=>aa6.mpr (.inl m);lia
    ·have:=L2'.2.2 u u0 tb_g%;have:=apf (v:=u) nD (D:=un C D) fun z m=>aa6.mpr (.inr m);lia
   ·rw[<-(ks u z).length_eq];exact lv.2.2 u z uw
  ·rwa[agZ,Xj (ks w lw)]at dn
def FP(room:Nat)(f g h:Fq):Prop:=∃cut,eF room (kY f.c g.c) h.c cut/\h.t=f.t+g.t/\h.l=f.l+g.l+cut
structure RP(f g h:Rs):Prop where
 r:h.r=f.r
 tt:h.tt=f.tt+g.tt
 mi:h.mi=lo2 f.mi g.mi
 ma:h.ma=hi2 f.ma g.ma
 st:RG.Stl f.r 0 (f.tn+g.tn) (f.ov+g.ov) (f.un+g.un) (RG.join f.ls g.ls) h.ls h.tn h.ov h.un
def WP(room:Nat)(reach:Int)(f g h:Wi):Prop:=h.c=f.c+g.c/\bx h.ps=gn room (f.c+g.c-reach) (bx f.ps++(bx g.ps).map (shift f.c))
def DP(room:Nat)(f g h:Di):Prop:=h.n=f.n+g.n/\h.C=un f.C g.C/\oO room h.v (un f.C g.C)
structure KP(x y z:KS):Prop where
 room:z.room=x.room
 reach:z.reach=x.reach
 span:z.span=x.span
 cm:FP x.room x.cm y.cm z.cm
 wn:FP x.room x.wn y.wn z.wn
 up:RP x.up.x y.up.x z.up.x
 dn:RP x.dn.x y.dn.x z.dn.x
 wi:WP x.room x.reach x.wi y.wi z.wi
 di:DP x.room x.di y.di z.di
 ba:z.ba.q=addQ x.ba.q y.ba.q
structure Alk(x y:KS)(n m:Nat):Prop where
 room:y.room=x.room
 reach:y.reach=x.reach
 span:y.span=x.span
 kx:Kh x n
 ky:Kh y m
 few:n+m<=63
 nx:x.di.C.Nodup
 ny:y.di.C.Nodup
theorem KP.kh(h:KP x y z)(a:Alk x y n m):Kh z (n+m):=by
 have gf:∀{f g k:Fq},FP x.room f g k->Gf x.room f n->Gf y.room g m->Gf z.room k (n+m):=fun {f g k} ⟨cut,ft,e1,e2⟩ ⟨⟨W,o1⟩,t1,k1⟩ ⟨⟨V,o2⟩,t2,k2⟩=>by
  rw[a.room]at o2;rw[h.room];show#[#[_,by rw[e1,e2];exact(o1.z7 o2).fit ft],by rw[e1];lia,by have:=ain ft;have:=zY g.c f.c;lia]
 have gr:∀{f g k:Rs},RP f g k->Gr x.room f n->Gr y.room g m->Gr z.room k (n+m):=fun {f g k} p g1 g2=>by
  have e:g.r=f.r:=by rw[g1.r,g2.r,a.room]
  have h2:=g2.g;rw[e]at h2;show#[by rw[p.r,g1.r,h.room],by rw[p.r,p.tt];exact g1.g.z7 h2 p.st,by have:=g1.t;have:=g2.t;rw[p.tt];lia,?_];rw[h.room];refine a.kx.rr.imp id fun z=>?_;have jl:=RG.Gx (P:=fun k=>k.length<=n+m) (l:=f.ls) (m:=g.ls) fun i=>by
   rw[RG.z9];have e1:=RG.uI (P:=fun k=>k.length<=n) (g1.sm.resolve_left tb_g%) (cg _) i;have e2:=RG.uI (P:=fun k=>k.length<=m) (g2.sm.resolve_left (by have:=a.room;lia)) (cg _) i;lia
  have fe:=a.few;have fr:=g1.r;obtain⟨e,_⟩:=(ag2 0 (f.tn+g.tn) (f.ov+g.ov) (f.un+g.un) fun l ml=>by have:=jl l ml;lia).uniq p.st;rwa[e]
 have l1:=a.kx.wl;have l2:=a.ky.wl;have l3:=a.kx.dc;have l4:=a.ky.dc;show#[by rw[h.room];exact a.kx.r2,by rw[h.room];exact a.kx.r64,by rw[h.room];exact a.kx.rr,gf h.cm a.kx.cm a.ky.cm,gf h.wn a.kx.wn a.ky.wn,gr h.up a.kx.up a.ky.up,gr h.dn a.kx.dn a.ky.dn,?_,by rw[h.room,h.di.2.1];exact h.di.2.2,?_,a.few]
 ·have:=adl x.room (x.wi.c+y.wi.c-x.reach) (bx x.wi.ps++(bx y.wi.ps).map (shift x.wi.c));rw[<-h.wi.2,gk,cu,aD,gk,gk]at this;lia
 ·have:=ape x.di.C y.di.C;rw[h.di.2.1];lia
theorem Alk.jb(a:Alk x y n m)(g1:Gr x.room f n)(g2:Gr y.room g m):(∀k∈RG.join f.ls g.ls,k.length<=63)/\((∀k∈RG.join f.ls g.ls,k.length<=31)\/∀k∈RG.join f.ls g.ls,(k.length:Int)<=f.r):=by
 have fe:=a.few;have e1:=g1.r;have e2:=g2.r;have e3:=a.room;rcases a.kx.rr with z|z
 ·have jl:=RG.Gx (P:=fun k=>k.length<=30) (l:=f.ls) (m:=g.ls) fun i=>by
   rw[RG.z9];have e1:=RG.uI (P:=fun k=>k.length<=15) (fun k hk=>by have:=g1.g.sm k hk;lia) (cg _) i;have e2:=RG.uI (P:=fun k=>k.length<=15) (fun k hk=>by have:=g2.g.sm k hk;lia) (cg _) i;lia
  show#[fun k hk=>by have:=jl k hk;lia,.inl fun k hk=>by have:=jl k hk;lia]
 ·have jl:=RG.Gx (P:=fun k=>k.length<=n+m) (l:=f.ls) (m:=g.ls) fun i=>by
   rw[RG.z9];have e1:=RG.uI (P:=fun k=>k.length<=n) (g1.sm.resolve_left tb_g%) (cg _) i;have e2:=RG.uI (P:=fun k=>k.length<=m) (g2.sm.resolve_left tb_g%) (cg _) i;lia
  show#[fun k hk=>by have:=jl k hk;lia,.inr fun k hk=>by have:=jl k hk;lia]
theorem RP.eq(a:RP f g h)(b:RP f g k):ER h k:=by
 obtain⟨e1,e2,e3,e4⟩:=b.st.uniq a.st;show#[a.r.trans b.r.symm,a.tt.trans b.tt.symm,e3,e4,e2,a.mi.trans b.mi.symm,a.ma.trans b.ma.symm,e1]
theorem avB{L:List Addr}:∀{i:Nat},L.Nodup->y∉L->(L.set i y).Nodup:=by
 induction L with
 |nil=>intro i h _;exact h
 |cons a r ih =>
  intro i h n;obtain⟨h1,h2⟩:=iu.mp h;have n1:y≠a:=fun z=>n (by rw[z];exact bY);have n2:y∉r:=fun z=>n (cF _ z);cases i with
  |zero=>exact iu.mpr #[n2,h2]
  |succ i =>
   refine iu.mpr #[fun m=>?_,ih h2 n2];rcases BW m with z|z
   ·exact h1 z
   ·exact n1 z.symm
theorem Kp.fresh{A:Ad}(h:Kp A G x)(n:G p=none):p∉x.all:=by
 intro m;unfold KS.all at m;simp only[aP,jc,or_false]at m;rcases m with rfl|rfl|rfl|rfl|rfl|rfl|rfl|rfl
 ·rw[h.o]at n;cases n
 ·rw[h.cm.o]at n;cases n
 ·rw[h.wn.o]at n;cases n
 ·rw[h.up.o]at n;cases n
 ·rw[h.dn.o]at n;cases n
 ·rw[h.wi.o]at n;cases n
 ·rw[h.di.o]at n;cases n
 ·rw[h.ba.o]at n;cases n
structure Frm(A:Ad)(G J:Hp)(x:KS)(p:Addr):Prop where
 b:But x.k G J
 o:∃C e fs,G x.k=some (.ins C e fs)
 nk:p≠x.k
 nd:∀i,(x.all.set i p).Nodup
 cm:mY A J x.room x.cm
 wn:mY A J x.room x.wn
 up:RnX A J x.up.p x.up.x
 dn:RnX A J x.dn.p x.dn.x
 wi:Wn A J x.wi.p x.wi.dx x.wi.l x.room x.reach x.wi.c x.wi.ps
 di:Dn A J x.di.p x.di.dx x.di.l x.room x.di.n x.di.v (srt (My.up x.di.v x.di.C))
 ba:Bn A J x.ba.p x.ba.dx x.ba.l x.span x.ba.q
abbrev kz(k dk:Addr)(x:KS)(f1 f2:Fq)(f3 f4:Ru)(f5:Wi)(f6:Di)(f7:Ba):KS:=#[k,dk,x.room,x.reach,x.span,f1,f2,f3,f4,f5,f6,f7]
theorem Kp.step{A:Ad}{H G G1:Hp}{z z':KS}{p:Addr}{fs:List (Str × V)}{R:St->Hp->Prop}{σ:St}(h:Kp A G z)(sG:Same H G)(vk:H z.k=none)(s:Same G G1)(n:G p=none)
  (hz:∀J,Frm A G1 J z p->J z.k=some (.ins A.C'5 z.dk fs)->Kp A J z') (q:∀J,Kp A J z'->Same H J->H p=none->R σ J):R σ (upd G1 z.k (.ins A.C'5 z.dk fs)):=by
 have a:=h.ap;have o:=s _ _ h.o;have b:L2.But z.k G1 (L2.upd G1 z.k (.ins A.C'5 z.dk fs)):=But.upd;exact q _ (hz _ #[b,#[_,_,_,o],aL (ak h.o n),fun i=>avB h.nd (h.fresh n),(h.cm.same s).but b o (aL a.k1),(h.wn.same s).but b o (aL a.k2),(h.up.same s).but b o (aL a.k3),(h.dn.same s).but b o (aL a.k4),(h.wi.same s).but b o (aL a.k5),(h.di.same s).but b o (aL a.k6),(h.ba.same s).but b o (aL a.k7)] aj) (fun b o e=>by rw[ao (ak e vk)];exact(sG.trans s) b o e) (sG.free n)
def ark(A:Ad):Sp:=fun vs H Q _=>∃x,KC (vs=[.ref x.k]) (Kp A H x) (2<=x.room) (x.room<=64) (x.room % 2=0) (∀y H',Kp A H' y->Eqp y (K0 x.room x.reach x.span)->(∀b∈y.all,H b=none)->Same H H'->Q (.ref y.k) H')
theorem Vz(T:Tx K mg A):FnK P w base T.wV CX0 5 (ark A):=by
 k_dat (T.wV,T.wV.ok,Vo) "f"
 ·obtain⟨x,rfl,hK,r2,r64,ev,q⟩:=h;show#[_,by k_dat ([],[f9 T.abF T.En (lZ T) ?_],[]) "p",?_];show#[_,rfl,rdG hK.o (Hv T) #[_,rfl,rdG hK.o (Bb T) #[_,rfl,rdG hK.o (xQ T) ?_]]];refine fun k dk n1 n2 n3=>#[k,dk,x.room,x.reach,x.span,rfl,aj,r2,r64,ev,fun y H2 kp eqy ek ag7 _ bt=>#[rfl,?_]];have up2:Same H (upd (upd H dk (.own k)) k (.ins A.C'5 dk [])):=fun b o e=>by rwa[ao (ak e n1),ao (ak e n2)]
  rw [<- ek];exact q y H2 kp eqy (fun b m=>by
   rcases aP.mp (show b∈y.k::y.pts from m)with z|z
   ·rwa[z,ek]
   ·exact up2.free (ag7 b z)) fun b o e=>bt b o (up2 b o e) (ak e n1)
def arl(A:Ad):Sp:=fun vs H Q _=>Ex4 fun x y n m=>uV (vs=[.ref x.k,.ref y.k]) (Kp A H x) (Kp A H y) (Alk x y n m) (∀z H',Kp A H' z->KP x y z->(∀b∈z.all,H b=none)->(∀b∈z.ems,H b=none)->Same H H'->Q (.ref z.k) H')
theorem ajO(T:Tx K mg A):FnK P w base T.Te CX0 6 (arl A):=by
 k_dat (T.Te,T.Te.ok,Xf) "f"
 ·obtain⟨x,y,n,m,rfl,hX,hY,al,q⟩:=h;show#[_,by k_dat ([],[Xf.nd,aB (Vz T) ?_,aB (Fe T) ?_,aB (Nz T) ?_,aB (adp T) ?_,aB (Fi T) ?_,aB (Hw T) ?_],[]) "p",?_]
  k_dat lq "c"
  show#[_,rfl,rdG hX.o (Hv T) #[_,rfl,rdG hY.o (Hv T) #[rfl,_,rfl,yg (by rw[al.room]) ?_]]];show#[_,rfl,rdG hX.o (Bb T) #[_,rfl,rdG hY.o (Bb T) #[rfl,_,rfl,yg (by rw[al.reach]) ?_]]];show#[_,rfl,rdG hX.o (xQ T) #[_,rfl,rdG hY.o (xQ T) #[rfl,_,rfl,yg (by rw[al.span]) ?_]]];have r2:=al.kx.r2;have r64:=al.kx.r64;have ev:x.room % 2=0:=by have:=al.kx.up.g.ev;have:=al.kx.up.r;lia
  dsimp only[arG];refine sq fun R hR=>?_;show#[_,rfl,x,rfl,hX,r2,r64,ev,fun z0 H1 kp0 eq0 fr0 s0=>?_];obtain⟨k,dk,r0,rc,sp,c1,c2,u1,u2,w5,d6,b7⟩:=z0;obtain rfl:r0=x.room:=eq0.room;obtain rfl:rc=x.reach:=eq0.reach;obtain rfl:sp=x.span:=eq0.span;have vk:H k=none:=fr0 k (bY ..);have kG:=kp0;have sG:=s0;have X:=hX.same sG;have Y:=hY.same sG;clear kp0 s0 eq0 fr0;obtain⟨W1,ok1⟩:=al.kx.cm.ok;obtain⟨W2,ok2⟩:=al.ky.cm.ok;obtain⟨W3,ok3⟩:=al.kx.wn.ok;obtain⟨W4,ok4⟩:=al.ky.wn.ok;have yr:=al.room;have er1:y.up.x.r=x.up.x.r:=by rw[al.kx.up.r,al.ky.up.r,al.room]
  have er2:y.dn.x.r=x.dn.x.r:=by rw[al.kx.dn.r,al.ky.dn.r,al.room]
  refine hR _ _ (sq fun R hR=>?_);show#[_,rfl,rdG X.o (Bv T) #[_,rfl,rdG Y.o (Bv T) #[x.cm.p,x.cm.dx,x.cm.d,y.cm.p,y.cm.dx,y.cm.d,x.room,x.cm.t,x.cm.l,y.cm.t,y.cm.l,x.cm.c,y.cm.c,rfl,X.cm.o,X.cm.d,(by rw[<-al.room];exact Y.cm.o),Y.cm.d,ok1.nd,ok1.pos,ok2.pos,by have:=zY y.cm.c x.cm.c;have:=al.kx.cm.k;have:=al.ky.cm.k;have:=al.few;lia,by have:=ok1.len;have:=ok2.len;lia,fun p dx d b cut G1 np ne ft o1 o2 s1=>?_]]];obtain⟨f1,rfl,F1,D1⟩:∃f:Fq,f.p=p/\mY A G1 x.room f/\FP x.room x.cm y.cm f:=#[#[p,dx,d,_,_,b],rfl,#[o1,o2],cut,ft,rfl,rfl];show#[_,rfl,k,_,dk,_,rfl,s1 _ _ kG.o,T.jK,T.ac0,tb_g%,kG.step (z':=kz k dk x f1 c2 u1 u2 w5 d6 b7) sG vk s1 np (fun J F o=>#[by rwa[adg]at o,(let ⟨_,_,_,g⟩:=F.o;F1.but F.b g F.nk),F.wn,F.up,F.dn,F.wi,F.di,F.ba,F.nd 1]) fun J1 K2 sG2 v1=>hR _ _ ?_];clear kG sG s1 np
  k_dat lq "c"
  have kG:=K2;have sG:=sG2;have X:=hX.same sG;have Y:=hY.same sG;clear K2 sG2;refine(sq fun R hR=>?_);show#[_,rfl,rdG X.o (Bw T) #[_,rfl,rdG Y.o (Bw T) #[x.wn.p,x.wn.dx,x.wn.d,y.wn.p,y.wn.dx,y.wn.d,x.room,x.wn.t,x.wn.l,y.wn.t,y.wn.l,x.wn.c,y.wn.c,rfl,X.wn.o,X.wn.d,(by rw[<-al.room];exact Y.wn.o),Y.wn.d,ok3.nd,ok3.pos,ok4.pos,by have:=zY y.wn.c x.wn.c;have:=al.kx.wn.k;have:=al.ky.wn.k;have:=al.few;lia,by have:=ok3.len;have:=ok4.len;lia,fun p dx d b cut G1 np ne ft o1 o2 s1=>?_]]];obtain⟨f2,rfl,F2,D2⟩:∃f:Fq,f.p=p/\mY A G1 x.room f/\FP x.room x.wn y.wn f:=#[#[p,dx,d,_,_,b],rfl,#[o1,o2],cut,ft,rfl,rfl];show#[_,rfl,k,_,dk,_,rfl,s1 _ _ kG.o,T.jK,T.ac1,tb_g%,kG.step (z':=kz k dk x f1 f2 u1 u2 w5 d6 b7) sG vk s1 np (fun J F o=>#[by rwa[adh]at o,F.cm,(let ⟨_,_,_,g⟩:=F.o;F2.but F.b g F.nk),F.up,F.dn,F.wi,F.di,F.ba,F.nd 2]) fun J2 K2 sG2 v2=>hR _ _ ?_];clear kG sG s1 np
  k_dat lq "c"
  have kG:=K2;have sG:=sG2;have X:=hX.same sG;have Y:=hY.same sG;clear K2 sG2;have L1:=fJ al.kx.up.g al.kx.up.t al.kx.few;have L2':=fJ al.ky.up.g al.ky.up.t al.ky.few;refine sq fun R hR=>?_;show#[_,rfl,rdG X.o (Xl T) #[_,rfl,rdG Y.o (Xl T) #[x.up.p,x.up.x.dx,x.up.x.a,y.up.p,y.up.x.dx,y.up.x.a,x.up.x.bs,y.up.x.bs,x.up.x.r,x.up.x.tt,x.up.x.ov,x.up.x.un,x.up.x.tn,y.up.x.tt,y.up.x.ov,y.up.x.un,y.up.x.tn,x.up.x.mi,x.up.x.ma,y.up.x.mi,y.up.x.ma,x.up.x.ls,y.up.x.ls,rfl,X.up,(by rw[<-er1];exact Y.up),al.kx.up.g.r2,al.kx.up.g.r64,by have:=L1.1;lia,by have:=L2'.1;lia,(al.jb al.kx.up al.ky.up).1,(al.jb al.kx.up al.ky.up).2,L1.2,L2'.2,fun p dx d bs2 out tn2 ov2 un2 G1 st rn np nd2 nc2 s1=>?_]]];obtain⟨f3,rfl,F3,D3,g3⟩:∃f:Ru,f.p=p/\RnX A G1 f.p f.x/\RP x.up.x y.up.x f.x/\H f.x.a=none/\∀c∈f.x.bs,H c=none:=#[#[p,#[dx,d,bs2,_,_,ov2,un2,tn2,_,_,out]],rfl,rn,#[rfl,rfl,rfl,rfl,st],sG.free nd2,fun c m=>sG.free (nc2 c m)];show#[_,rfl,k,_,dk,_,rfl,s1 _ _ kG.o,T.jK,T.ac2,tb_g%,kG.step (z':=kz k dk x f1 f2 f3 u2 w5 d6 b7) sG vk s1 np (fun J F o=>#[by rwa[ajI]at o,F.cm,F.wn,(let ⟨_,_,_,g⟩:=F.o;F3.but F.b g F.nk),F.dn,F.wi,F.di,F.ba,F.nd 3]) fun J3 K2 sG2 v3=>hR _ _ ?_];clear kG sG s1 np
  k_dat lq "c"
  have kG:=K2;have sG:=sG2;have X:=hX.same sG;have Y:=hY.same sG;clear K2 sG2;have L1:=fJ al.kx.dn.g al.kx.dn.t al.kx.few;have L2':=fJ al.ky.dn.g al.ky.dn.t al.ky.few;refine sq fun R hR=>?_;show#[_,rfl,rdG X.o (Bx T) #[_,rfl,rdG Y.o (Bx T) #[x.dn.p,x.dn.x.dx,x.dn.x.a,y.dn.p,y.dn.x.dx,y.dn.x.a,x.dn.x.bs,y.dn.x.bs,x.dn.x.r,x.dn.x.tt,x.dn.x.ov,x.dn.x.un,x.dn.x.tn,y.dn.x.tt,y.dn.x.ov,y.dn.x.un,y.dn.x.tn,x.dn.x.mi,x.dn.x.ma,y.dn.x.mi,y.dn.x.ma,x.dn.x.ls,y.dn.x.ls,rfl,X.dn,(by rw[<-er2];exact Y.dn),al.kx.dn.g.r2,al.kx.dn.g.r64,by have:=L1.1;lia,by have:=L2'.1;lia,(al.jb al.kx.dn al.ky.dn).1,(al.jb al.kx.dn al.ky.dn).2,L1.2,L2'.2,fun p dx d bs2 out tn2 ov2 un2 G1 st rn np nd2 nc2 s1=>?_]]];obtain⟨f4,rfl,F4,D4,g4⟩:∃f:Ru,f.p=p/\RnX A G1 f.p f.x/\RP x.dn.x y.dn.x f.x/\H f.x.a=none/\∀c∈f.x.bs,H c=none:=#[#[p,#[dx,d,bs2,_,_,ov2,un2,tn2,_,_,out]],rfl,rn,#[rfl,rfl,rfl,rfl,st],sG.free nd2,fun c m=>sG.free (nc2 c m)];show#[_,rfl,k,_,dk,_,rfl,s1 _ _ kG.o,T.jK,T.ac3,tb_g%,kG.step (z':=kz k dk x f1 f2 f3 f4 w5 d6 b7) sG vk s1 np (fun J F o=>#[by rwa[adi]at o,F.cm,F.wn,F.up,(let ⟨_,_,_,g⟩:=F.o;F4.but F.b g F.nk),F.wi,F.di,F.ba,F.nd 4]) fun J4 K2 sG2 v4=>hR _ _ ?_];clear kG sG s1 np;have kG:=K2;have sG:=sG2;have X:=hX.same sG;have Y:=hY.same sG;clear K2 sG2;refine sq fun R hR=>?_;show#[_,rfl,rdG X.o (jJ T) #[_,rfl,rdG Y.o (jJ T) #[x.wi.p,x.wi.dx,x.wi.l,y.wi.p,y.wi.dx,y.wi.l,x.room,x.reach,x.wi.c,y.wi.c,x.wi.ps,y.wi.ps,rfl,X.wi,(by rw[<-al.room,<-al.reach];exact Y.wi),by have:=al.kx.wl;have:=al.ky.wl;have:=al.few;lia,by lia,by lia,fun p5 dx5 d5 ps5 G1 np nd5 eb5 wn5 s1=>?_]]];have vd5:=sG.free nd5;show#[_,rfl,k,_,dk,_,rfl,s1 _ _ kG.o,T.jK,T.ac4,tb_g%,kG.step (z':=kz k dk x f1 f2 f3 f4 #[p5,dx5,d5,x.wi.c+y.wi.c,ps5] d6 b7) sG vk s1 np (fun J F o=>#[by rwa[Vv]at o,F.cm,F.wn,F.up,F.dn,(let ⟨_,_,_,g⟩:=F.o;wn5.but F.b g F.nk),F.di,F.ba,F.nd 5]) fun J5 K2 sG2 v5=>hR _ _ ?_];clear kG sG s1 np;have kG:=K2;have sG:=sG2;have X:=hX.same sG;have Y:=hY.same sG;clear K2 sG2;refine sq fun R hR=>?_;show#[_,rfl,rdG X.o (rK T) #[_,rfl,rdG Y.o (rK T) #[x.di.p,x.di.dx,x.di.l,y.di.p,y.di.dx,y.di.l,x.room,x.di.n,x.di.v,y.di.n,y.di.v,x.di.C,y.di.C,rfl,X.di,(by rw[<-al.room];exact Y.di),al.kx.dl,(by rw[<-al.room];exact al.ky.dl),al.nx,al.ny,by lia,by lia,by have:=al.kx.dc;have:=al.ky.dc;have:=al.few;lia,fun p6 dx6 l6 v6' G1 np nd6 ls6 dn6 s1=>?_]]];have vl6:=sG.free nd6;show#[_,rfl,k,_,dk,_,rfl,s1 _ _ kG.o,T.jK,T.ac5,tb_g%,kG.step (z':=kz k dk x f1 f2 f3 f4 #[p5,dx5,d5,x.wi.c+y.wi.c,ps5] #[p6,dx6,l6,x.di.n+y.di.n,v6',un x.di.C y.di.C] b7) sG vk s1 np (fun J F o=>#[by rwa[adk]at o,F.cm,F.wn,F.up,F.dn,F.wi,(let ⟨_,_,_,g⟩:=F.o;dn6.but F.b g F.nk),F.ba,F.nd 6]) fun J6 K2 sG2 v6=>hR _ _ ?_];clear kG sG s1 np;have kG:=K2;have sG:=sG2;have X:=hX.same sG;have Y:=hY.same sG;clear K2 sG2;refine sq fun R hR=>?_;show#[_,rfl,rdG X.o (iR T) #[_,rfl,rdG Y.o (iR T) #[x.ba.p,x.ba.dx,x.ba.l,y.ba.p,y.ba.dx,y.ba.l,x.span,x.ba.q,y.ba.q,rfl,X.ba,(by rw[<-al.span];exact Y.ba),fun p7 dx7 l7 G1 np bn7 s1=>?_]]];show#[_,rfl,k,_,dk,_,rfl,s1 _ _ kG.o,T.jK,T.ac6,tb_g%,kG.step (z':=kz k dk x f1 f2 f3 f4 #[p5,dx5,d5,x.wi.c+y.wi.c,ps5] #[p6,dx6,l6,x.di.n+y.di.n,v6',un x.di.C y.di.C] #[p7,dx7,l7,addQ x.ba.q y.ba.q]) sG vk s1 np (fun J F o=>#[by rwa[T4]at o,F.cm,F.wn,F.up,F.dn,F.wi,F.di,(let ⟨_,_,_,g⟩:=F.o;bn7.but F.b g F.nk),F.nd 7]) fun J7 K2 sG2 v7=>hR _ _ ?_];clear kG sG s1 np;have kG:=K2;have sG:=sG2;have X:=hX.same sG;have Y:=hY.same sG;clear K2 sG2;show#[_,rfl,q (kz k dk x f1 f2 f3 f4 #[p5,dx5,d5,x.wi.c+y.wi.c,ps5] #[p6,dx6,l6,x.di.n+y.di.n,v6',un x.di.C y.di.C] #[p7,dx7,l7,addQ x.ba.q y.ba.q]) J7 kG #[rfl,rfl,rfl,D1,D2,D3,D4,#[rfl,eb5],#[rfl,rfl,ls6],rfl] (fun b m=>?_) (fun b m=>?_) sG]
  ·unfold KS.all at m;simp only[aP,jc,or_false]at m;rcases m with rfl|rfl|rfl|rfl|rfl|rfl|rfl|rfl;all_goals assumption
  ·unfold KS.ems at m;simp only[aP,bH]at m;rcases m with rfl|rfl|rfl|rfl|m|m
   ·exact g3.1
   ·exact g4.1
   ·exact vd5
   ·exact vl6
   ·exact g3.2 b m
   ·exact g4.2 b m
def avC(σ:St)(_:Hp):Nat:=match σ with
 |[_,_,some (.int x)]=>x.toNat
 |_=>0
theorem log2_small{i:Int}(h:i.natAbs<2 ^ k)(hk:0<k):i.natAbs.log2<k:=by
 by_cases z:i.natAbs=0
 ·rwa[z]
 ·exact(als z).mpr h
theorem aip(css:List (List Char)):cZ (aW "") ((css.map Dec.tx).reverse)=Dec.tx css.reverse.flatten:=by
 rw[<-um,show aW "" = (#[#[]]:Str) by decide +kernel];exact Dec.join_none _
theorem apg(css:List (List Char)):((css.map Dec.tx).map (·.length)).sum=css.reverse.flatten.length:=by
 rw[List.length_flatten,um,akr,dB];exact mN List.sum (xU fun c _=>Dec.tO c)
def spFig:Sp:=fun vs H Q _=>∃n,mV (vs=[.int n]) (n.natAbs<2 ^ 1000) (∀H',Same H H'->Q (.str (aW (toString n))) H')
theorem T7(T:Tx K mg A):FnK P w base T.Kf CX0 1 spFig:=by
 k_dat (T.Kf,T.Kf.ok,Tw) "f"
 ·obtain⟨n,rfl,hn,q⟩:=h;obtain⟨_,arn,aro⟩:=T.aqN;obtain⟨_,NP,NQ⟩:=T.Ng;show#[_,by k_dat ([aom],[Tw.nd,dj ajf (by rfl) T.n_abs asu ?_,gO ZW (by rfl) T.n_str asv ?_,yd Lb PySem.F.slot_str_zfill PySem.F.type_str_zfill aol ?_ ?_,agx T.qN ?_ ?_ rfl],[gF (v:=.int 1000000000000000000000000000000) rfl arn aro,gF (v:=.int 30) rfl NP NQ]) "p",?_]
  k_dat lq "c"
  show#[tb_g%,fun L hL=>?_]
  k_dat (nwA hL,H1,s1,f1) "n"
  have f1:H1 L=some (.lst (([]:List (List Char)).map fun c=>V.str (Dec.tx c))):=f1;show#[_,rfl,n,rfl,?_];have e:(if n<0 then -n else n)=(n.natAbs:Int):=by split <;> lia
  rw[e]
  k_dat lqg "c"
  have pE:(1000000000000000000000000000000:Nat)=10 ^ 30:=by decide
  refine uE (fun σ G=>Ex2 fun(ps:List (List Char)) (m:Nat)=>KC (σ=[some (.int n),some (.ref L),some (.int (m:Int))]) (G L=some (.lst (ps.map fun c=>V.str (Dec.tx c)))) (Same H G) (Dec.dg n.natAbs=Dec.dg m++ps.reverse.flatten) (ps.length<1000) (m*2 ^ ps.length<=n.natAbs)) avC #[[],n.natAbs,rfl,f1,s1,by simp,tb_g%,by simp] ?_
   (fun σ H Q Q' hq ⟨v,e,i,j,e1,e2,k,e3,q⟩=>#[v,e,i,j,e1,e2,k,e3,hq _ _ q])
  rintro σ G ⟨ps,m,rfl,gL,sG,ed,lp,mp⟩;show#[_,rfl,_,_,rfl,rfl,_,rfl,dh (fun h=>?_) (fun h=>?_)]
  ·k_dat lq "c"
   have h:1000000000000000000000000000000<=m:=by have:=mS h;lia
   show#[_,rfl,.inl #[rfl,_,.inl (.inl gL)],?_];show#[_,rfl,_,_,rfl,rfl,(by show(0:Int)<1000000000000000000000000000000;decide),(m:Int) % 1000000000000000000000000000000,rfl,?_,?_]
   ·have e2:(2:Nat) ^ 100=1267650600228229401496703205376:=by decide
    exact m7 (log2_small (k:=100) tb_g% tb_g%) tb_g%
   have ei:(m:Int) % 1000000000000000000000000000000=((m % 10 ^ 30:Nat):Int):=by rw[<-pE];lia
   have eq:(m:Int) / 1000000000000000000000000000000=((m / 10 ^ 30:Nat):Int):=by rw[<-pE];lia
   have ml:m % 10 ^ 30<10 ^ 30:=aeH _ tb_g%;have zt:Zt (aW (toString ((m:Int) % 1000000000000000000000000000000))) 30=Dec.tx (Dec.pad 30 (m % 10 ^ 30)):=by rw[ei,Dec.oZ];exact Dec.aok tb_g% ml
   show#[rfl,_,30,rfl,rfl,tb_g%,?_];rw[zt];show#[L,_,_,rfl,rfl,gL,aJ (by rw[aD];lia),?_];have m1:0<m / 10 ^ 30:=Nat.div_pos (by rwa[<-pE]) tb_g%;have lt2:m / 10 ^ 30*2<=m:=by rw[<-pE];lia
   have p2:m / 10 ^ 30*2 ^ (ps.length+1)<=n.natAbs:=by
    have e2:2 ^ (ps.length+1)=2*2 ^ ps.length:=by rw[jy,Dr]
    rw[e2,<-vD];exact cW (Fw _ lt2) mp
   show#[_,rfl,_,_,rfl,rfl,#[tb_g%,tb_g%],#[ps++[Dec.pad 30 (m % 10 ^ 30)],m / 10 ^ 30,by rw[<-eq];rfl,?_,fun b o e=>?_,?_,?_,by rwa[cu]],?_]
   ·rw[aR];exact aj
   ·rw[ao (ak e hL)];exact sG b o e
   ·have:=Dec.acA m1 30 tb_g% ml;rw[show m / 10 ^ 30*10 ^ 30+m % 10 ^ 30=m from Nat.div_add_mod' _ _]at this;rw[ed,Ig,this,iB];rfl
   ·rw[cu];show ps.length+1<1000;rcases iy (ps.length+1) 1000 with z|z
    ·exact z
    ·have h1:=PN (show 0<2 by decide) z;have h2:=Fw (2 ^ (ps.length+1)) m1;lia
   ·show((m:Int) / 1000000000000000000000000000000).toNat<(m:Int).toNat;lia
  ·k_dat lqn "c"
   have cl:(Dec.dg n.natAbs).length<=400:=Dec.Ac 400 tb_g% (m7 hn tb_g%);show#[_,rfl,.inl #[rfl,_,.inl (.inl gL)],_,rfl,(m:Int),rfl,?_,?_]
   ·have:m<=n.natAbs:=cW (Nat.le_mul_of_pos_right _ (Nat.two_pow_pos _)) mp;exact m7 (log2_small (k:=1000) tb_g% tb_g%) tb_g%
   rw[Dec.oZ];show#[L,_,_,rfl,rfl,gL,aJ (by rw[aD];lia),?_]
   k_dat (nsA sG hL,G2,s2,fG2) "n"
   have g2:G2 L=some (.lst ((ps++[Dec.dg m]).map fun c=>V.str (Dec.tx c))):=by rwa[aR]
   have fl:(ps++[Dec.dg m]).reverse.flatten=Dec.dg n.natAbs:=by rw[ed,Ig];rfl
   have ll:(ps++[Dec.dg m]).length<=1000:=by rw[cu];show ps.length+1<=1000;lia
   generalize ps++[Dec.dg m]=css at g2 fl ll;show#[_,rfl,_,_,rfl,rfl,_,rfl,dh (fun h0=>?_) (fun h0=>?_)]
   ·have h0:n<0:=mS h0;show#[_,rfl,.inl #[rfl,_,.inl (.inl g2)],L,_,_,rfl,rfl,g2,aJ (by rw[aD];lia),?_]
    k_dat (nsA s2 hL,G3,s3,fG3) "n"
    have g3:G3 L=some (.lst (((css++[['-']]).map Dec.tx).map V.str)):=by
     rw[fG3,show aW "-" = Dec.tx ['-'] by decide +kernel,aR,aR,dB];rfl
    have e1:(css++[['-']]).reverse.flatten = '-'::Dec.dg n.natAbs:=by rw[Ig,<-fl];rfl
    show#[aW "",rfl,_,rfl,L,(css++[['-']]).map Dec.tx,rfl,.inl (.inl g3),by decide +kernel,?_,?_]
    ·rw[apg,e1,aD,cu];show(Dec.dg n.natAbs).length+1+(css.length+1)<=1048576;lia
    ·rw[aip,e1,<-Dec.GC tb_g%,show -(n.natAbs:Int)=n by lia];exact q _ s3
   ·have h0:¬ n<0:=fun z=>h0 (mP z);show#[aW "",rfl,_,rfl,L,css.map Dec.tx,rfl,.inl (.inl (by rw[g2,dB];rfl)),by decide +kernel,?_,?_]
    ·rw[apg,fl,aD];lia
    ·rw[aip,fl,<-Dec.oZ,show(n.natAbs:Int)=n by lia];exact q _ s2
def sI(n:Int):Str:=aW (toString n)
theorem avD{n:Int}(h:n.natAbs<2 ^ 1000):(sI n).length<=401:=by
 have cl:(Dec.dg n.natAbs).length<=400:=Dec.Ac 400 tb_g% (m7 h tb_g%);unfold sI;by_cases z:n<0
 ·rw[show n = -(n.natAbs:Int) by lia,Dec.GC tb_g%,Dec.tO];show(Dec.dg n.natAbs).length+1<=401;lia
 ·rw[show n=(n.natAbs:Int) by lia,Dec.oZ,Dec.tO];lia
theorem KJ:∀{ns:List Int},(∀n∈ns,n.natAbs<2 ^ 1000)->((ns.map sI).map (·.length)).sum<=401*ns.length
 |[],_=>aK _
 |n::ns,h=>by
  have h1:=avD (h n bY);have h2:=KJ fun k m=>h k (cF n m);rw[cR,cR,gH,cD];lia
def spRow:Sp:=fun vs H Q _=>Ex2 fun(a:Addr) (ns:List Int)=>uV (vs=[.ref a]) (H a=some (.lst (ns.map V.int))) ((∀n∈ns,n.natAbs<2 ^ 1000)) (ns.length<=900) (∀H',Same H H'->Q (.str (cZ (aW " ") (ns.map sI))) H')
theorem aa7(T:Tx K mg A):FnK P w base T.aoN CX0 2 spRow:=by
 k_dat (T.aoN,T.aoN.ok,au8) "f"
 ·obtain⟨a,ns,rfl,ha,hb,hn,q⟩:=h;show#[_,by k_dat ([dO],[yd Lb Jp Zw aao ?_ ?_],[jo [] ["number"] [] ?_ (fun _ _ _ _=>iz) (fun _ _ _ _=>(aB (T7 T) (bV (pv 0) fO)))]) "p",?_];show#[rfl,_,rfl,a,rfl,#[_,.inl (.inl ha)],fun D hD=>?_];refine fZ (K:=K) (a:=a) (xs:=ns.map V.int) (fun i ys G=>ys=(ns.take i).map (fun n=>V.str (sI n))/\G D=some (.lst ys)/\Same H G) #[rfl,aj,Same.new hD] ?_ ?_ ?_ ?_
  ·rintro i ys G hi ⟨rfl,gD,sG⟩;show#[.inl (.inl (sG _ _ ha)),gD,aJ ?_];rw[aD,eX];lia
  ·rintro i ys G x hx ⟨rfl,gD,sG⟩
   k_dat (n,hi,int_at,hx) "z"
   show#[_,rfl,n,rfl,hb n (mv hi),fun G1 s1=>?_];show#[s1 _ _ gD,?_,aj,fun b o e=>?_]
   ·rw[jg,hi,aR];rfl
   ·rw[ao (ak e hD)];exact s1 _ _ (sG b o e)
  ·rintro ys G ⟨rfl,gD,sG⟩;rw[aD,jC]at gD;have sm:=KJ hb;show#[aW " ",D,ns.map sI,rfl,rfl,.inl (.inl (by rw[gD,dB];rfl)),by decide +kernel,?_,q _ sG];rw[aD];lia
  ·rintro σ H R R' hr ⟨v,e,n,en,hn,q⟩;show#[v,e,n,en,hn,fun H1 s1=>hr _ _ (q H1 s1)]
def bI(b:WN.Box):List Int:=[b.f,b.l,b.s]
def avE(A:Ad):Sp:=fun vs H Q _=>Ex7 fun p dx l r k c ps=>uV (vs=[.ref p]) (Wn A H p dx l r k c ps) ((∀n∈c::(bx ps).flatMap bI,n.natAbs<2 ^ 1000)) (ps.length<=200) (∀H',Same H H'->Q (.str (cZ (aW " ") ((c::(bx ps).flatMap bI).map sI))) H')
theorem Fj:∀bs:List WN.Box,(bs.flatMap bI).length=3*bs.length
 |[]=>rfl
 |b::bs=>by rw[yR,cu,Fj bs,cD];show 3+_=_;lia
theorem NT(T:Tx K mg A):FnK P w base T.qJ CX0 3 (avE A):=by
 k_dat (T.qJ,T.qJ.ok,yC) "f"
 ·obtain⟨p,dx,l,r,k,c,ps,rfl,hW,hb,hn,q⟩:=h;show#[_,by k_dat ([dO],[yC.nd,yd Qp afd afe agy ?_ ?_,aB (aa7 T) ?_],[]) "p",?_]
  k_dat lq "c"
  show#[_,rfl,rdG hW.o (gj T) #[tb_g%,fun L hL=>?_]]
  k_dat (nwA hL,H1,s1,f1) "n"
  have f1:H1 L=some (.lst ((c::(bx (ps.take 0)).flatMap bI).map V.int)):=f1;have W1:=hW.same s1;show#[_,rfl,rdG W1.o (mX T) #[l,rfl,#[_,.inl (.inl W1.b.l)],jX (K:=K) (a:=l) (xs:=ps.map fun p=>V.ref p.1) (fun i σ G=>∃(y:Option V),mV (σ=[some (.ref p),some (.ref L),y]) (G L=some (.lst ((c::(bx (ps.take i)).flatMap bI).map V.int))) (Same H G)) #[none,rfl,f1,s1] (fun i σ G _ ⟨_,_,_,s⟩=>.inl (.inl (s _ _ hW.b.l))) ?_ ?_]]
  ·rintro i v σ G hi ⟨y,rfl,gL,sG⟩
   k_dat (b,hi',Ou,hi) "z"
   have ht:=sG _ _ (hW.b.t b (mv hi'));have li:i<ps.length:=(dI.mp hi').1;have ll:(c::(bx (ps.take i)).flatMap bI).length<=900:=by
    rw[cD,Fj,gk,eX];lia
   show#[_,rfl,.inl #[rfl,_,.inl (.inl gL)],_,rfl,L,b.1,_,[.int b.2.f,.int b.2.l,.int b.2.s],rfl,rfl,gL,.inl (.inl ht),?_,?_]
   ·have:=aJ (n:=903) tb_g%;rw[aD];show _+3<=_;lia
   show#[_,rfl,?_,fun b o e=>?_]
   ·rw[aj,jg,hi'];unfold bx;rw[aR,XJ,<-O6,aR];rfl
   ·rw[ao (ak e hL)];exact sG b o e
  ·rintro σ G ⟨y,rfl,gL,sG⟩;rw[aD,jC]at gL;show#[_,rfl,L,_,rfl,gL,hb,by rw[cD,Fj,gk];lia,fun H' s'=>q _ (sG.trans s')]
def rN(f:Rs):List Int:=[f.tt,f.ov,f.un,f.tn]++(f.mi.toList++f.ma.toList)
def rW(ls:RG.Ls):List Str:=ls.flatMap fun l=>aW "/" :: l.map sI
def Km(f:Rs):Prop:=(f.tt=0/\f.mi=none/\f.ma=none)\/(f.tt≠0/\∃a b,f.mi=some a/\f.ma=some b)
theorem arp{ls:RG.Ls}{i:Nat}{l:List Int}(h:ls[i]? = some l):rW (ls.take (i+1))=rW (ls.take i)++(aW "/" :: l.map sI):=by
 unfold rW;rw[jg,h,XJ];simp
theorem share1{α:Type}(C:α->Prop){G:α->Prop}{R:Prop}(f:(∀x,C x->G x)->R)(k:∀x,C x->G x):R:=f k
theorem T8:∀{ls:RG.Ls},(∀l∈ls,l.length<=64)->(rW ls).length<=65*ls.length
 |[],_=>aK _
 |l::ls,h=>by
  have h1:=h l bY;have h2:=T8 fun k m=>h k (cF l m);have e:rW (l::ls)=(aW "/" :: l.map sI)++rW ls:=by unfold rW;rw[yR]
  rw[e,cu,cD,aD,cD];lia
theorem sI_20{n:Int}(h:n.natAbs<10 ^ 20):(sI n).length<=21:=by
 have cl:(Dec.dg n.natAbs).length<=20:=Dec.Ac 20 tb_g% h;unfold sI;by_cases z:n<0
 ·rw[show n = -(n.natAbs:Int) by lia,Dec.GC tb_g%,Dec.tO];show(Dec.dg n.natAbs).length+1<=21;lia
 ·rw[show n=(n.natAbs:Int) by lia,Dec.oZ,Dec.tO];lia
theorem adt:∀{ns:List Int},(∀n∈ns,n.natAbs<10 ^ 20)->((ns.map sI).map (·.length)).sum<=21*ns.length
 |[],_=>aK _
 |n::ns,h=>by
  have h1:=sI_20 (h n bY);have h2:=adt fun k m=>h k (cF n m);rw[cR,cR,gH,cD];lia
theorem ag8:∀{ls:RG.Ls},(∀l∈ls,l.length<=64)->(∀l∈ls,∀n∈l,n.natAbs<10 ^ 20)->((rW ls).map (·.length)).sum<=1400*ls.length
 |[],_,_=>aK _
 |l::ls,h,g=>by
  have h1:=h l bY;have h2:=ag8 (fun k m=>h k (cF l m)) fun k m=>g k (cF l m);have h3:=adt (g l bY);have h4:(aW "/").length=1:=by decide +kernel
  have e:rW (l::ls)=(aW "/" :: l.map sI)++rW ls:=by unfold rW;rw[yR]
  rw[e,aR,X7,cR,gH,cD,h4];lia
theorem aa8(h:n<=9000):n<sizeLine:=oM h tb_g%
theorem jZ(sep:Str):∀ts,(cZ sep ts).length<=(ts.map (·.length)).sum+ts.length*sep.length:=by
 intro ts;show(Zy sep ts).length<=_;have key:∀(us:List Str)(acc:Array Nat),(us.foldl (fun acc p=>acc++sep.cps++p.cps) acc).size=acc.size+(us.map (·.length)).sum+us.length*sep.length:=by
  intro us
  induction us with
  |nil=>intro acc;simp
  |cons u us ih =>
   intro acc;rw[CJ,ih,aeZ,aeZ,cR,gH,cD,YT];show acc.size+sep.length+u.length+_+_=_;lia
 unfold Zy;show Array.size _<=_;rw[key];cases ts with
 |nil=>exact aK _
 |cons t ts =>
  show t.length+_+_<=_;rw[cR,gH,cD,YT];show t.length+(ts.map (·.length)).sum+ts.length*sep.length<=_;lia
def avF(A:Ad):Sp:=fun vs H Q _=>Ex2 fun p f=>qT (vs=[.ref p]) (RnX A H p f) (Km f) ((∀n∈rN f,n.natAbs<2 ^ 1000)) ((∀l∈f.ls,∀n∈l,n.natAbs<10 ^ 20)) (f.ls.length<=60) ((∀l∈f.ls,l.length<=64)) (∀H',Same H H'->Q (.str (cZ (aW " ") (cZ (aW " ") ((rN f).map sI)::rW f.ls))) H')
theorem T9(T:Tx K mg A):FnK P w base T.tX CX0 3 (avF A):=by
 k_dat (T.tX,T.tX.ok,Ar) "f"
 ·obtain⟨p,f,rfl,hR,km,hb,hl,h60,h64,q⟩:=h;show#[_,by k_dat ([dO],[Ar.nd,yd Qp afd afe Wj ?_ ?_,aB (aa7 T) ?_,yd Lb Jp Zw aao ?_ ?_],[jo [] Q11 [] ?_ (fun _ _ _ _=>iz) (fun _ _ _ _=>(aB (T7 T) (bV (pv 0) fO)))]) "p",?_]
  k_dat lq "c"
  show#[_,rfl,rdG hR.o (fH T) #[_,rfl,rdG hR.o (xr T) #[_,rfl,rdG hR.o (qU T) #[_,rfl,rdG hR.o (jq T) #[tb_g%,fun L hL=>?_]]]]]
  k_dat (nwA hL,H1,s1,f1) "n"
  k_dat lqg "c"
  have R1:=hR.same s1;show#[_,rfl,rdG R1.o (fH T) #[rfl,_,rfl,?_]];apply share1 (fun G:Hp=>G L=some (.lst ((rN f).map V.int))/\Same H G)
  ·intro key;rcases km with⟨k0,k1,k2⟩|⟨k0,a,b,k1,k2⟩
   ·refine yg (by rw[k0]) ?_;exact key H1 #[by rw[f1];unfold rN;rw[k1,k2];rfl,s1]
   ·rw[xj (fun y=>k0 (V.int.inj y))];refine Uy #[_,rfl,.inl #[rfl,_,.inl (.inl f1)],_,rfl,rdG R1.o (mW T) #[_,rfl,rdG R1.o (o9 T) #[tb_g%,fun M hM=>?_]]];have sM:=Same.new (o:=.lst [oV f.mi,oV f.ma]) hM;show#[L,M,_,_,rfl,rfl,sM _ _ f1,aj,by show 4+2<=sizeLine;decide,?_];have g2:(upd (upd H1 M (.lst [oV f.mi,oV f.ma])) L (.lst ([.int f.tt,.int f.ov,.int f.un,.int f.tn]++[oV f.mi,oV f.ma]))) L=some (.lst ((rN f).map V.int)):=by rw[aj];unfold rN;rw[k1,k2];rfl
    have s2:Same H (upd (upd H1 M (.lst [oV f.mi,oV f.ma])) L (.lst ([.int f.tt,.int f.ov,.int f.un,.int f.tn]++[oV f.mi,oV f.ma]))):=fun b o e=>by rw[ao (ak e hL)];exact(s1.trans sM) b o e
    generalize upd (upd H1 M (.lst [oV f.mi,oV f.ma])) L (.lst ([.int f.tt,.int f.ov,.int f.un,.int f.tn]++[oV f.mi,oV f.ma]))=G2 at g2 s2 ⊢
    k_dat lqn "c"
    exact key G2 #[g2,s2]
  intro G ⟨gL,sG⟩;have n6:(rN f).length<=6:=by
   unfold rN;cases f.mi <;> cases f.ma <;> simp
  show#[_,rfl,L,rN f,rfl,gL,hb,by lia,fun G1 t1=>#[tb_g%,fun W hW=>?_]]
  k_dat lqg "c"
  have e0:(cZ (aW " ") ((rN f).map sI)).length<=3000:=by
   have h1:=jZ (aW " ") ((rN f).map sI);have h2:=KJ hb;have h3:(aW " ").length=1:=by decide +kernel
   rw[aD,h3]at h1;lia
  generalize cZ (aW " ") ((rN f).map sI)=t0 at q e0 ⊢
  k_dat (nwA hW,G2,zG2,f2) "n"
  have s2:=(sG.trans t1).trans zG2;have f2:G2 W=some (.lst ((t0::rW (f.ls.take 0)).map V.str)):=f2;have vW:H W=none:=(sG.trans t1).free hW;have R2:=hR.same s2;show#[_,rfl,rdG R2.o (gb T) #[f.a,rfl,#[_,.inl (.inl R2.l.o)],jX (K:=K) (a:=f.a) (xs:=f.bs.map V.ref) (fun i σ G=>∃(y:Option V),mV (σ=[some (.ref p),some (.ref L),some (.ref W),y]) (G W=some (.lst ((t0::rW (f.ls.take i)).map V.str))) (Same H G)) #[none,rfl,f2,s2] (fun i σ G _ ⟨_,_,_,s⟩=>.inl (.inl (s _ _ hR.l.o))) ?_ ?_]]
  ·rintro i v σ G hi ⟨y,rfl,gW,sG⟩;rw[cP]at hi;cases eb:f.bs[i]? with
   |none=>rw[eb]at hi;cases hi
   |some b =>
    rw[eb]at hi;obtain rfl:=bC hi;have li:i<f.ls.length:=by rw[<-hR.l.n];exact(dI.mp eb).1
    have el:=eE li;have hb':=hR.l.e i b _ eb el;have ml:=yS li;generalize f.ls[i]=l at el hb' ml;have tl:=T8 (ls:=f.ls.take i) fun k m=>h64 k (adX m);rw[eX]at tl;have l64:=h64 l ml;show#[_,rfl,.inl #[rfl,_,.inl (.inl gW)],W,_,_,rfl,rfl,gW,aa8 (by rw[aD,cD];lia),?_]
    k_dat (nsA sG vW,G3,s3,fG3) "n"
    have g3:G3 W=some (.lst ((t0::rW (f.ls.take i)++[aW "/"]).map V.str)):=by rw[fG3,aR];rfl
    show#[_,rfl,.inl #[rfl,_,.inl (.inl g3)],_,rfl,b,rfl,#[_,.inl (.inl (s3 _ _ hb'))],fun D hD=>?_];refine fZ (K:=K) (a:=b) (xs:=l.map V.int) (fun j ys J=>ys=(l.take j).map (fun n=>V.str (sI n))/\J D=some (.lst ys)/\Same G3 J) #[rfl,aj,Same.new hD] ?_ ?_ ?_ ?_
    ·rintro j ys J hj ⟨rfl,gD,sJ⟩;show#[.inl (.inl (sJ _ _ (s3 _ _ hb'))),gD,aJ ?_];rw[aD,eX];lia
    ·rintro j ys J x hx ⟨rfl,gD,sJ⟩
     k_dat (n,hj,int_at,hx) "z"
     show#[_,rfl,n,rfl,m7 (hl l ml n (mv hj)) tb_g%,fun J1 t1=>?_];show#[t1 _ _ gD,?_,aj,fun b o e=>?_]
     ·rw[jg,hj,aR];rfl
     ·rw[ao (ak e hD)];exact t1 _ _ (sJ b o e)
    ·rintro ys J ⟨rfl,gD,sJ⟩;rw[aD,jC]at gD;show#[W,D,_,_,rfl,rfl,sJ _ _ g3,gD,gK (aa8 (by rw[aD,cu,cD,aD];show(rW (f.ls.take i)).length+1+1+l.length<=9000;lia)),?_];show#[_,rfl,?_,fun b o e=>?_]
     ·rw[aj,arp el];simp only[aR,cR,dB,O6,iB,Ik,O8];rfl
     ·rw[ao (ak e vW)];exact sJ _ _ (s3 b o e)
    ·rintro σ H R R' hr ⟨v,e,n,en,hn,q⟩;show#[v,e,n,en,hn,fun H1 s1=>hr _ _ (q H1 s1)]
  ·rintro σ G ⟨y,rfl,gW,sG⟩;rw[aD,hR.l.n,jC]at gW;have h1:=ag8 h64 hl;have h2:=T8 h64;show#[rfl,_,rfl,aW " ",W,t0::rW f.ls,rfl,rfl,.inl (.inl gW),by decide +kernel,?_,q _ sG];rw[cR,gH,cD];lia
def eV(c:Tab):Tab:=c.mergeSort fun a b=>decide (a.1<=b.1)
theorem cY(c:Tab):(eV c).Perm c:=O4 _ _
theorem Oz(c:Tab):(eV c).Pairwise fun a b:Int × Int=>a.1<=b.1:=by
 have:=Xq (le:=fun a b:Int × Int=>decide (a.1<=b.1)) (fun a b c h1 h2=>by simp only[decide_eq_true_eq]at *; lia) (fun a b=>by simp only[Y6,decide_eq_true_eq];lia) c;exact this.imp fun h=>mS h
def pN(c:Tab):List Int:=c.flatMap fun p=>[p.1,p.2]
theorem Fl:∀c:Tab,(pN c).length=2*c.length
 |[]=>rfl
 |p::c=>by
  have e:pN (p::c)=[p.1,p.2]++pN c:=by unfold pN;rw[yR]
  rw[e,cu,Fl c,cD (a:=p)];show 2+2*c.length=2*(c.length+1);lia
theorem arq{c:Tab}{i:Nat}{p:Int × Int}(h:c[i]? = some p):pN (c.take (i+1))=pN (c.take i)++[p.1,p.2]:=by
 unfold pN;rw[jg,h,XJ];simp
def fN(f:Fq):List Int:=[f.t,f.l]++pN (eV f.c)
def avG(A:Ad):Sp:=fun vs H Q _=>Ex2 fun f room=>KC (vs=[.ref f.p]) (mY A H room f) ((keys f.c).Nodup) (f.c.length<=63) ((∀n∈fN f,n.natAbs<2 ^ 1000)) (∀H',Same H H'->Q (.str (cZ (aW " ") ((fN f).map sI))) H')
theorem Hx(T:Tx K mg A):FnK P w base T.lQ CX0 3 (avG A):=by
 k_dat (T.lQ,T.lQ.ok,rG) "f"
 ·obtain⟨f,room,rfl,hF,nd,ln,hb,q⟩:=h;show#[_,by k_dat ([dO],[rG.nd,dj (iV rfl) (by rfl) T.kE La ?_,yd Qp afd afe Wj ?_ ?_,aB (aa7 T) ?_],[]) "p",?_]
  k_dat lq "c"
  show#[_,rfl,rdG hF.o (uY T) #[_,rfl,rdG hF.o (Bt T) #[tb_g%,fun L hL=>?_]]]
  k_dat (nwA hL,H1,s1,f1) "n"
  have f1:H1 L=some (.lst (([f.t,f.l]++pN ((eV f.c).take 0)).map V.int)):=f1;have F1:=hF.same s1;have kl:(keys f.c).length=f.c.length:=aD _;show#[_,rfl,rdG F1.o (jH T) (.inl #[f.d,_,keys f.c,rfl,.inl F1.d,ab1 _,by lia,fun l ns' hl pm so=>?_])];obtain rfl:ns'=keys (eV f.c):=jF (pm.trans ((cY f.c).map _).symm) so (Cz.mpr (Oz f.c))
  k_dat (nwA hl,H2,zH2,k2) "n"
  have s2:=s1.trans zH2;have g2:=zH2 _ _ f1;have nl:l≠L:=aL (ak f1 hl);have pl:=(cY f.c).length_eq;show#[l,rfl,#[_,.inl (.inl k2)],jX (K:=K) (a:=l) (xs:=(keys (eV f.c)).map V.int) (fun i σ G=>∃(y:Option V),uU (σ=[some (.ref f.p),some (.ref L),y]) (G L=some (.lst (([f.t,f.l]++pN ((eV f.c).take i)).map V.int))) (Same H G) (G l=some (.lst ((keys (eV f.c)).map V.int)))) #[none,rfl,g2,s2,k2] (fun i σ G _ ⟨_,_,_,_,k⟩=>.inl (.inl k)) ?_ ?_]
  ·rintro i v σ G hi ⟨y,rfl,gL,sG,kG⟩
   k_dat (k,hk,int_at,hi) "z"
   obtain⟨z,hz,rfl⟩:∃z,(eV f.c)[i]? = some z/\z.1=k:=by
    unfold keys at hk;rw[cP]at hk;cases e:(eV f.c)[i]? with
    |none=>rw[e]at hk;cases hk
    |some z=>rw[e]at hk;show#[z,rfl,bC hk]
   have mz:z∈f.c:=(cY f.c).mem_iff.mp (mv hz);have FG:=hF.same sG;have li:i<(eV f.c).length:=(dI.mp hz).1;show#[_,rfl,.inl #[rfl,_,.inl (.inl gL)],_,rfl,_,rfl,rdG FG.o (jH T) #[_,rfl,anC (.inl FG.d) (ab2 (mR nd mz)) #[tb_g%,fun M hM=>?_]]];have sM:=Same.new (o:=.lst [.int z.1,.int z.2]) hM;show#[L,M,_,_,rfl,rfl,sM _ _ gL,aj,gK (aJ (by rw[aD,cu,Fl,eX];show 2+_+2<=1000;lia)),?_];show#[_,rfl,?_,fun b o e=>?_,?_]
   ·rw[aj,arq hz,<-iB,aR (l₂:=[z.1,z.2])];rfl
   ·rw[ao (ak e hL)];exact sM _ _ (sG b o e)
   ·rw[ao nl];exact sM _ _ kG
  ·rintro σ G ⟨y,rfl,gL,sG,_⟩;rw[aD,show(keys (eV f.c)).length=(eV f.c).length from aD _,jC]at gL;show#[_,rfl,L,fN f,rfl,gL,hb,by unfold fN;rw[cu,Fl];show 2+_<=900;lia,fun H' s'=>q _ (sG.trans s')]
def cL(s:Str):List Nat:=s.cps.toList
abbrev sp1:Str:=aW " "
theorem aph(h:cL a=cL b):a=b:=by
 cases a;cases b;exact mN Str.mk (Qj.mp h)
theorem avH(a b:Str):cL (a++b)=cL a++cL b:=Jl
abbrev fm(ts:List Str):List Nat:=ts.flatMap fun u=>cL sp1++cL u
theorem BJ(t:Str)(ts:List Str):cL (cZ sp1 (t::ts))=cL t++fm ts:=by
 have key:∀(us:List Str)(acc:Array Nat),(us.foldl (fun acc p=>acc++sp1.cps++p.cps) acc).toList=acc.toList++fm us:=by
  intro us
  induction us with
  |nil=>intro acc;simp
  |cons u us ih =>
   intro acc;rw[CJ,ih,Jl,Jl,iB,iB];show _=_++((u::us).flatMap _);rw[yR,iB];rfl
 exact key ts t.cps
def ln(h:Str)(ts:List Str):Str:=cZ sp1 (h::ts)
theorem rM(e:cL a=cL b++cL sp1)(n:ts≠[]):a++cZ sp1 ts=ln b ts:=by
 k_dat (t,us,adR,n) "z"
 apply aph;unfold ln;rw[avH,BJ,BJ,e,fm,fm,yR];simp only[iB]
theorem apj(n:ts≠[])(us:List Str):cZ sp1 (cZ sp1 ts::us)=cZ sp1 (ts++us):=by
 k_dat (t,vs,adR,n) "z"
 apply aph;rw[BJ,BJ,O6,BJ,fm,fm,fm,XJ,iB]
theorem aa9:sp1.length=1:=by decide +kernel
theorem z9{ns:List Int}(hb:∀n∈ns,n.natAbs<2 ^ 1000):(cZ sp1 (ns.map sI)).length<=402*ns.length:=by
 have h1:=jZ sp1 (ns.map sI);have h2:=KJ hb;rw[aD,aa9]at h1;lia
theorem ud{h:Str}{ts:List Str}(hh:h.length<=16)(hs:(ts.map (·.length)).sum+ts.length<=k):(ln h ts).length<=17+k:=by
 have h1:=jZ sp1 (h::ts);rw[aa9,cR,gH,cD]at h1;unfold ln;lia
def rT(f:Rs):List Str:=(rN f).map sI++rW f.ls
noncomputable def jf (x:KS):List Str:=[ln (aW "keep") (([x.room,x.reach,x.span]:List Int).map sI),ln (aW "came") ((fN x.cm).map sI),ln (aW "went") ((fN x.wn).map sI),ln (aW "up") (rT x.up.x),ln (aW "down") (rT x.dn.x),
 ln (aW "window") ((x.wi.c::(bx x.wi.ps).flatMap bI).map sI),ln (aW "seen") (([x.di.n,x.di.v]++srt (My.up x.di.v x.di.C)).map sI),ln (aW "sums") ((L4 x.ba.q).map sI)]
abbrev Th(z:Int):Prop:=0<=z/\z<1152921504606846976
theorem Th.big(h:Th z):z.natAbs<2 ^ 1000:=m7 (show z.natAbs<1152921504606846976 by have:=h.1;have:=h.2;lia) tb_g%
theorem Th.mid(h:Th z):z.natAbs<10 ^ 20:=m7 (show z.natAbs<1152921504606846976 by have:=h.1;have:=h.2;lia) tb_g%
structure Gu(f:Rs)(n:Nat):Prop where
 km:Km f
 mi:∀z,f.mi=some z->Th z
 ma:∀z,f.ma=some z->Th z
 ls:∀l∈f.ls,∀z∈l,Th z
 t0:0<=f.tn
 tn:f.tn<=60*n
structure Wb(c:Int)(n:Nat)(bs:List WN.Box):Prop where
 b:∀b∈bs,0<=b.f/\b.f<=c/\0<=b.l/\b.l<=c/\0<=b.s
 s:WN.sum bs<=1000000000000*n
structure Nb(x:KS)(n:Nat):Prop where
 rc:Th x.reach
 sn:Th x.span/\x.span<=1000000000
 cm:∀k∈keys x.cm.c,Th k
 wn:∀k∈keys x.wn.c,Th k
 up:Gu x.up.x n
 dn:Gu x.dn.x n
 c0:0<=x.wi.c
 c1:x.wi.c<=1000000000000*n
 wi:Wb x.wi.c n (bx x.wi.ps)
 dn0:0<=x.di.n
 dn1:x.di.n<=n
 dv:x.di.v<=61
 dc:∀z∈x.di.C,Th z
 ba:∀z∈L4 x.ba.q,z.natAbs<=n*10 ^ 40
theorem KN:∀os S b,(∀o∈b::os,0<=o.f/\o.f<=c/\0<=o.l/\o.l<=c/\0<=o.s)->∀o∈WN.settle room S b os,0<=o.f/\o.f<=c/\0<=o.l/\o.l<=c/\0<=o.s
 |[],S,b,h=>h
 |o::os,S,b,h=>by
  rw[WN.gB];have h1:=h b bY;have h2:=h o (cF _ bY);split
  ·refine KN os _ _ fun p m=>?_
   walk_at "m"
   ·show#[h2.1,h2.2.1,h1.2.2.1,h1.2.2.2.1,by show 0<=b.s+o.s;lia]
   ·exact h p (cF _ (cF _ m))
  ·intro p m
   walk_at "m"
   ·exact h1
   ·exact KN os _ _ (fun q m=>h q (cF _ m)) p m
theorem sum_filter:∀{bs:List WN.Box},(∀b∈bs,0<=b.s)->WN.sum (bs.filter p)<=WN.sum bs
 |[],_=>cC _
 |b::bs,h=>by
  have h1:=h b bY;have h2:=sum_filter (p:=p) fun o m=>h o (cF b m);rw[rO];split
  ·rw[WN.sum_cons,WN.sum_cons];lia
  ·rw[WN.sum_cons];lia
theorem aiq(bs:List WN.Box):WN.sum bs.reverse=WN.sum bs:=by
 unfold WN.sum;rw[um];exact List.sum_reverse_int _
theorem Wb.settled(h:Wb c n bs)(room e:Int):Wb c n (gn room e bs):=by
 have hf:∀b∈(bs.filter fun b=>decide (e<b.l)).reverse,0<=b.f/\b.f<=c/\0<=b.l/\b.l<=c/\0<=b.s:=fun b m=>h.b b ((pG.mp (uo.mp m)).1);have s1:=sum_filter (p:=fun b=>decide (e<b.l)) (bs:=bs) fun b m=>(h.b b m).2.2.2.2;have s2:=h.s;unfold gn;rw[<-aiq]at s1;generalize (bs.filter fun b=>decide (e<b.l)).reverse=os at hf s1;show#[fun b m=>?_,by rw[aiq,WN.aco];lia];rw[uo]at m;cases os with
 |nil=>exact nomatch m
 |cons o os=>exact KN os _ _ hf b m
theorem Wb.mono(h:Wb c n bs)(e:c<=d):Wb d (n+1) bs:=#[fun b m=>by have:=h.b b m;lia,by have:=h.s;lia]
theorem apk{tn ov un:Int}(a:RG.Stl room h tn ov un ls out tn' ov' un'):tn'<=tn+out.length:=by
 induction a with
 |nil=>exact Int.le_add_of_nonneg_right tb_g%
 |keep _ _ ih=>rw[cD];lia
 |turn _ _ ih=>rw[cD];lia
theorem ar3(h:∀z,a=some z->Th z)(ht:Th t)(e:lo2 a (some t)=some z):Th z:=by
 cases a with
 |none=>cases e;exact ht
 |some y =>
  have:=h y rfl;obtain rfl:=bC e;constructor <;> lia
theorem ar4(h:∀z,a=some z->Th z)(ht:Th t)(e:hi2 a (some t)=some z):Th z:=by
 cases a with
 |none=>cases e;exact ht
 |some y =>
  have:=h y rfl;obtain rfl:=bC e;constructor <;> lia
theorem Gu.add{th w:Int}(h:Gu f n)(k:Gr room f n)(k':Gr apl g (n+1))(few:n+1<=63)(s:RS th w f g)(ht:Th th)(w1:1<=w):Gu g (n+1):=by
 have gl:=fJ k'.g k'.t few;have v0:=k.g.vl;show#[.inr #[by rw[s.tt];lia,?_],fun z e=>ar3 h.mi ht (s.mi ▸ e),fun z e=>ar4 h.ma ht (s.ma ▸ e),s.st.mem (RG.JQ th ht _ _ h.ls),by have:=s.st.mono.1;have:=h.t0;lia,by have:=apk s.st;have:=h.tn;have:=gl.1;lia];rw[s.mi,s.ma];cases f.mi <;> cases f.ma <;> show#[_,_,rfl,rfl]
theorem Gu.next(h:Gu f n):Gu f (n+1):=#[h.km,h.mi,h.ma,h.ls,h.t0,by have:=h.tn;lia]
theorem ar5{th w:Int}(s:FS room th w f g)(h:∀k∈keys f.c,Th k)(ht:Th th):∀k∈keys g.c,Th k:=by
 obtain⟨cut,a,_⟩:=s;intro k m;have m2:k∈keys (put f.c th (low f.c th+w)):=by
  unfold eF at a;split at a
  ·rwa[a.2]at m
  ·rw[a.2]at m;exact wz m
 rcases(Gh ..).mp m2 with rfl|m3
 ·exact ht
 ·exact h k m3
theorem pw_bd{th w:Int}(ht:0<=th/\th<1000000000)(w2:w.natAbs<=1000000000000):∀z∈L4 (pwQ th w),z.natAbs<=10 ^ 40:=by
 have t1:th.natAbs<=1000000000:=by lia
 have key:∀{a b c d:Nat},a<=c->b<=d->a*b<=c*d:=fun h1 h2=>alp h1 h2;intro z m;have m:z=w\/z=w*th\/z=w*th*th\/z=w*th*th*th:=by
  have:z∈[w,w*th,w*th*th,w*th*th*th]:=m;simpa using this
 have a1:=key w2 t1;have a2:=key a1 t1;have a3:=key a2 t1;rcases m with rfl|rfl|rfl|rfl
 ·exact cW w2 tb_g%
 ·rw[Jj];exact cW a1 tb_g%
 ·rw[Jj,Jj];exact cW a2 tb_g%
 ·rw[Jj,Jj,Jj];exact cW a3 tb_g%
theorem ar6(h:∀z∈L4 q,z.natAbs<=n*10 ^ 40)(g:∀z∈L4 p,z.natAbs<=10 ^ 40):∀z∈L4 (addQ q p),z.natAbs<=(n+1)*10 ^ 40:=by
 intro z m;have m:z=q.a+p.a\/z=q.b+p.b\/z=q.c+p.c\/z=q.d+p.d:=by
  have:z∈[q.a+p.a,q.b+p.b,q.c+p.c,q.d+p.d]:=m;simpa using this
 have e:∀{a b:Int},a∈L4 q->b∈L4 p->(a+b).natAbs<=(n+1)*10 ^ 40:=fun {a b} m1 m2=>by
  have h1:=h a m1;have h2:=g b m2;rw[YT];generalize 10 ^ 40=B at h1 h2 ⊢;generalize n*B=C at h1 ⊢;lia
 rcases m with rfl|rfl|rfl|rfl <;> exact e (by simp[L4]) (by simp[L4])
theorem apm(h:∀z∈L4 q,z.natAbs<=n*10 ^ 40):∀z∈L4 q,z.natAbs<=(n+1)*10 ^ 40:=fun z m=>cW (h z m) (Fw _ (jN n))
theorem Nb.row{r:R3}(h:Nb x n)(k:Kh x n)(k':Kh x' (n+1))(ok:r.ok)(s:SR r x x'):Nb x' (n+1):=by
 have ht:Th r.th:=#[ok.t0,ok.t1];have w1:=ok.w1;have w2:=ok.w2;have sb:=s.sb;have c0:=h.c0;have c1:=h.c1;have d0:=h.dn0;have d1:=h.dn1;have rc:Th x'.reach:=by rw[sb.reach];exact h.rc
 have sn:Th x'.span/\x'.span<=1000000000:=by rw[sb.span];exact h.sn
 unfold SR at s;split at s
 ·have wb:Wb x'.wi.c (n+1) (bx x'.wi.ps):=by
   rw[s.wi.2,s.wi.1];refine Wb.settled #[fun b m=>?_,?_] _ _
   ·walk_at "e"
    ·have:=h.wi.b b m;lia
    ·rw[bO.mp m];show#[by show 0<=x.wi.c+1;lia,cC _,by show 0<=x.wi.c+1;lia,cC _,by show 0<=r.w;lia]
   ·have:=h.wi.s;rw[WN.sum_append,WN.sum_cons,WN.sum_nil];show _+(r.w+0)<=_;lia
  show#[rc,sn,ar5 s.cm h.cm ht,by rw[s.wn];exact h.wn,h.up.add k.up k'.up k'.few s.up ht w1,by rw[s.dn];exact h.dn.next,by rw[s.wi.1];lia,by rw[s.wi.1];lia,wb,by rw[s.di.1];lia,by rw[s.di.1];lia,s.di.2.2.le (by have:=k.r2;lia) h.dv,fun z m=>?_,?_]
  ·rw[s.di.2.1]at m;unfold came at m;split at m
   ·exact h.dc z m
   ·walk_at "e"
    ·exact h.dc z m
    ·rwa[bO.mp m]
  ·rw[s.ba];split
   ·exact ar6 h.ba (pw_bd #[ht.1,by rename_i z;have:=h.sn.2;lia] tb_g%)
   ·exact apm h.ba
 split at s
 ·have wb:Wb x'.wi.c (n+1) (bx x'.wi.ps):=by
   rw[s.wi.2,s.wi.1];exact(h.wi.mono tb_g%).settled _ _
  show#[rc,sn,by rw[s.cm];exact h.cm,ar5 s.wn h.wn ht,by rw[s.up];exact h.up.next,h.dn.add k.dn k'.dn k'.few s.dn ht w1,by rw[s.wi.1];lia,by rw[s.wi.1];lia,wb,by rw[s.di];lia,by rw[s.di];lia,by rw[s.di];exact h.dv,by rw[s.di];exact h.dc,?_];rw[s.ba];split
  ·exact ar6 h.ba (pw_bd #[ht.1,by rename_i z;have:=h.sn.2;lia] tb_g%)
  ·exact apm h.ba
 ·have wb:Wb x'.wi.c (n+1) (bx x'.wi.ps):=by
   rw[s.wi.2,s.wi.1];exact(h.wi.mono tb_g%).settled _ _
  show#[rc,sn,by rw[s.cm];exact h.cm,by rw[s.wn];exact h.wn,by rw[s.up];exact h.up.next,by rw[s.dn];exact h.dn.next,by rw[s.wi.1];lia,by rw[s.wi.1];lia,wb,by rw[s.di];lia,by rw[s.di];lia,by rw[s.di];exact h.dv,by rw[s.di];exact h.dc,by rw[s.ba];exact apm h.ba]
theorem nb0(h1:Th reach)(h2:Th span/\span<=1000000000):Nb (K0 room reach span) 0:=by
 have g0:Gu (R0 room) 0:=⟨.inl ⟨rfl,rfl,rfl⟩,fun z e=>(nomatch e),fun z e=>(nomatch e),fun _ m=>(nomatch m),cC _,cC _⟩;exact ⟨h1,h2,fun _ m=>(nomatch m),fun _ m=>(nomatch m),g0,g0,cC _,cC _,⟨fun _ m=>(nomatch m),cC _⟩,cC _,cC _,(by decide:(0:Int)<=61),fun _ m=>(nomatch m),fun z m=>by
  have:z∈[(0:Int),0,0,0]:=m;simp at this;subst this;exact cg _⟩
theorem ag9:∀{l:List Int},(∀v∈l,0<=v)->∀v∈l,v<=l.sum
 |a::l,h,v,m=>by
  have h1:=h a bY;have h2:=wA fun y m=>h y (cF a m);rw[gH]
  walk_at "m"
  ·lia
  ·have:=ag9 (fun y m=>h y (cF a m)) v m;lia
theorem Gf.nums(g:Gf room f n)(few:n<=63)(h:∀k∈keys f.c,Th k):∀z∈fN f,Th z:=by
 obtain⟨W,ok⟩:=g.ok;have t:=g.t;have l0:=ok.l0;have v0:∀v∈vals f.c,0<=v:=fun v m=>by
  obtain⟨p,hp,e⟩:=dH.mp m;have:=ok.pos p hp;lia
 have s0:=wA v0;have sm:=ok.sum;have l1:f.l<=((room:Int)+1)*f.l:=by
  rw[Du,aeO];have:=alA (show(0:Int)<=room by lia) l0;lia
 intro z m;unfold fN at m
 walk_at "e"
 ·have m:z=f.t\/z=f.l:=by simpa using m
  rcases m with rfl|rfl <;> show#[by lia,by lia]
 ·unfold pN at m;obtain⟨p,mp,mz⟩:=X5.mp m;have mc:=(cY f.c).mem_iff.mp mp;have mz:z=p.1\/z=p.2:=by simpa using mz
  rcases mz with rfl|rfl
  ·exact h _ (yQ mc)
  ·have:=ok.pos p mc;have:=ag9 v0 p.2 (yQ mc);show#[by lia,by lia]
theorem Gu.nums(u:Gu f m)(fm:m<=1000)(g:Gr room f n)(few:n<=63):∀z∈rN f,Th z:=by
 have t:=g.t;have vl:=g.g.vl;have gl:=fJ g.g g.t few;have o0:=g.g.ov0;have u0:=g.g.un0;have r2:=g.g.r2;have tn:=u.tn;have t0:=u.t0;have bd:f.ov+f.un<1152921504606846976:=by
  by_cases e:f.ls=[]
  ·have:=g.g.pt;rw[e]at this;have h2:(f.ov+f.un)*f.r<=0:=this;have h3:(f.ov+f.un)*2<=(f.ov+f.un)*f.r:=Qd r2 tb_g%;lia
  ·have h1:=g.g.near e;have h3:(f.ov+f.un)*2<=(f.ov+f.un)*f.r:=Qd r2 tb_g%;have h4:f.tt*((f.ls.length:Int)-1)<=f.tt*60:=Qd (by have:=gl.1;lia) tb_g%;lia
 intro z m;unfold rN at m
 walk_at "e"
 ·have m:z=f.tt\/z=f.ov\/z=f.un\/z=f.tn:=by simpa using m
  rcases m with rfl|rfl|rfl|rfl <;> show#[by lia,by lia]
 ·walk_at "e"
  ·exact u.mi z (alL.mp m)
  ·exact u.ma z (alL.mp m)
theorem Nb.wins(h:Nb x n)(few:n<=1000):∀z∈x.wi.c::(bx x.wi.ps).flatMap bI,Th z:=by
 have c0:=h.c0;have c1:=h.c1;have sm:=h.wi.s;intro z m
 walk_at "m"
 ·show#[by lia,by lia]
 ·obtain ⟨b,mb,mz⟩:=X5.mp m;have q:=h.wi.b b mb;have:=ag9 (l:=(bx x.wi.ps).map (·.s)) (fun v m=>by
   k_dat (o,mo,dH.mp,m) "z"
   exact (h.wi.b o mo).2.2.2.2) b.s (yQ mb)
  have sm:((bx x.wi.ps).map (·.s)).sum<=1000000000000*n:=sm;have mz:z=b.f\/z=b.l\/z=b.s:=by simpa[bI]using mz
  rcases mz with rfl|rfl|rfl <;> show#[by lia,by lia]
theorem Nb.seen(h:Nb x m)(fm:m<=1000)(k:Kh x n):∀z∈[x.di.n,x.di.v]++srt (My.up x.di.v x.di.C),Th z:=by
 have d0:=h.dn0;have d1:=h.dn1;have few:=k.few;have v0:=k.dl.1;have v1:=h.dv;intro z m
 walk_at "e"
 ·have m:z=x.di.n\/z=x.di.v:=by simpa using m
  rcases m with rfl|rfl <;> show#[by lia,by lia]
 ·exact h.dc z (pG.mp ((O4 _ _).mem_iff.mp m)).1
theorem Nb.sums(h:Nb x n)(few:n<=1000):∀z∈L4 x.ba.q,z.natAbs<2 ^ 1000:=fun z m=>oM (cW (h.ba z m) (Fw _ few)) tb_g%
theorem LQ{a b:Str}(h1:a.length<=16)(h2:b.length<=200000):a.length+b.length<=sizeLine:=cW (show _<=200016 by lia) tb_g%
theorem KQ(hb:∀n∈rN f,n.natAbs<2 ^ 1000)(hl:∀l∈f.ls,∀n∈l,n.natAbs<10 ^ 20)(h60:f.ls.length<=60)(h64:∀l∈f.ls,l.length<=64):((rT f).map (·.length)).sum+(rT f).length<=95000:=by
 have n6:(rN f).length<=6:=by
  unfold rN;cases f.mi <;> cases f.ma <;> simp
 have h1:=KJ hb;have h2:=ag8 h64 hl;have h3:=T8 h64;unfold rT;rw[aR,X7,cu,aD];lia
theorem ar7(f:Rs):rT f≠[]:=by unfold rT rN;exact kZ _ _
theorem ar8(f:Rs):cZ sp1 (cZ sp1 ((rN f).map sI)::rW f.ls)=cZ sp1 (rT f):=apj (by unfold rN;exact kZ _ _) _
theorem ig{ns:List Int}(hb:∀n∈ns,n.natAbs<2 ^ 1000)(h:ns.length<=200):((ns.map sI).map (·.length)).sum+(ns.map sI).length<=95000:=by
 have:=KJ hb;rw[aD];lia
theorem LR{ts:List Str}(h:(ts.map (·.length)).sum+ts.length<=95000):(cZ sp1 ts).length<=200000:=by
 have:=jZ sp1 ts;rw[aa9]at this;lia
structure Kx(x:KS):Prop where
 k:∀z∈([x.room,x.reach,x.span]:List Int),z.natAbs<2 ^ 1000
 cm:(keys x.cm.c).Nodup
 cl:x.cm.c.length<=63
 cn:∀z∈fN x.cm,z.natAbs<2 ^ 1000
 wn:(keys x.wn.c).Nodup
 wl:x.wn.c.length<=63
 ws:∀z∈fN x.wn,z.natAbs<2 ^ 1000
 u1:Km x.up.x
 u2:∀z∈rN x.up.x,z.natAbs<2 ^ 1000
 u3:∀l∈x.up.x.ls,∀z∈l,z.natAbs<10 ^ 20
 u4:x.up.x.ls.length<=60
 u5:∀l∈x.up.x.ls,l.length<=64
 d1:Km x.dn.x
 d2:∀z∈rN x.dn.x,z.natAbs<2 ^ 1000
 d3:∀l∈x.dn.x.ls,∀z∈l,z.natAbs<10 ^ 20
 d4:x.dn.x.ls.length<=60
 d5:∀l∈x.dn.x.ls,l.length<=64
 i1:∀z∈x.wi.c::(bx x.wi.ps).flatMap bI,z.natAbs<2 ^ 1000
 i2:x.wi.ps.length<=63
 s1:∀z∈[x.di.n,x.di.v]++srt (My.up x.di.v x.di.C),z.natAbs<2 ^ 1000
 s2:(srt (My.up x.di.v x.di.C)).length<=64
 b:∀z∈L4 x.ba.q,z.natAbs<2 ^ 1000
 tt:0<=x.up.x.tt/\0<=x.dn.x.tt
theorem Nb.kx(h:Nb x m)(fm:m<=1000)(k:Kh x n):Kx x:=by
 have few:=k.few;have r64:=k.r64;obtain⟨W1,o1⟩:=k.cm.ok;obtain⟨W2,o2⟩:=k.wn.ok;have lu:=fJ k.up.g k.up.t few;have ld:=fJ k.dn.g k.dn.t few;show#[fun z m=>Th.big ?_,o1.nd,by have:=k.cm.k;lia,fun z m=>(k.cm.nums few h.cm z m).big,o2.nd,by have:=k.wn.k;lia,fun z m=>(k.wn.nums few h.wn z m).big,h.up.km,fun z m=>(h.up.nums fm k.up few z m).big,fun l m z e=>(h.up.ls l m z e).mid,lu.1,k.up.g.small,h.dn.km,fun z m=>(h.dn.nums fm k.dn few z m).big,fun l m z e=>(h.dn.ls l m z e).mid,ld.1,k.dn.g.small,fun z m=>(h.wins fm z m).big,by have:=k.wl;lia,fun z m=>(h.seen fm k z m).big,?_,h.sums fm,by have:=k.up.g.vl;have:=k.dn.g.vl;lia]
 ·simp only[aP,jc,or_false]at m;rcases m with rfl|rfl|rfl
  ·show#[by lia,by lia]
  ·exact h.rc
  ·exact h.sn.1
 ·rw[eG];have:=k.dl.2.1;lia
theorem Kx.abb{f:Fq}(h:f.c.length<=63):(fN f).length<=200:=by
 unfold fN;rw[cu,Fl,(cY f.c).length_eq];show 2+_<=_;lia
theorem Kx.apn(h:Kx x):(x.wi.c::(bx x.wi.ps).flatMap bI).length<=200:=by
 have:=h.i2;rw[cD,Fj,gk];lia
theorem Kx.aha(h:Kx x):([x.di.n,x.di.v]++srt (My.up x.di.v x.di.C)).length<=200:=by
 have:=h.s2;rw[cu];show 2+_<=_;lia
theorem Kx.sum(h:Kx x):((jf x).map (·.length)).sum+(jf x).length<=1048576:=by
 have a0:=ud (h:=aW "keep") tb_g% (ig h.k tb_g%);have a1:=ud (h:=aW "came") tb_g% (ig h.cn (Kx.abb h.cl));have a2:=ud (h:=aW "went") tb_g% (ig h.ws (Kx.abb h.wl));have a3:=ud (h:=aW "up") tb_g% (KQ h.u2 h.u3 h.u4 h.u5);have a4:=ud (h:=aW "down") tb_g% (KQ h.d2 h.d3 h.d4 h.d5);have a5:=ud (h:=aW "window") tb_g% (ig h.i1 h.apn);have a6:=ud (h:=aW "seen") tb_g% (ig h.s1 h.aha);have a7:=ud (h:=aW "sums") tb_g% (ig h.b tb_g%);unfold jf;simp only[cR,Ik,gH,aky,cD,aks]at *;lia
def avI(A:Ad):Sp:=fun vs H Q _=>∃x,uU (vs=[.ref x.k]) (Kp A H x) (Kx x) (∀H',Same H H'->Q (.str (cZ (aW "\n") (jf x))) H')
theorem Ua(T:Tx K mg A):FnK P w base T.Kg CX0 4 (avI A):=by
 k_dat (T.Kg,T.Kg.ok,Tz) "f"
 ·obtain⟨x,rfl,hK,hx,q⟩:=h;show#[_,by (k_dat ([hdA],[Tz.nd,aB (aa7 T) ?_,aB (Hx T) ?_,aB (T9 T) ?_,aB (NT T) ?_,yd Lb Jp Zw aao ?_ ?_],[]) "p"; k_dat iI "h"; k_dat iI "h"; k_dat iI "h"; k_dat iI "h"; k_dat iI "h"; k_dat iI "h"; k_dat iI "h"; k_dat zV "h"; k_dat iI "h"),?_];show#[_,rfl,rdG hK.o (Hv T) #[_,rfl,rdG hK.o (Bb T) #[_,rfl,rdG hK.o (xQ T) #[tb_g%,fun l hl=>?_]]]];show#[l,[x.room,x.reach,x.span],rfl,aj,hx.k,tb_g%,fun H1 t1=>#[_,_,rfl,rfl,LQ tb_g% (LR (ig hx.k tb_g%)),?_]];have s1:=(Same.new (o:=.lst [.int x.room,.int x.reach,.int x.span]) hl).trans t1;clear t1 hl;show#[_,rfl,rdG (s1 _ _ hK.o) (Bv T) #[x.cm,x.room,rfl,hK.cm.same s1,hx.cm,hx.cl,hx.cn,fun H2 t2=>#[_,_,rfl,rfl,LQ tb_g% (LR (ig hx.cn (Kx.abb hx.cl))),?_]]];have s2:=s1.trans t2;show#[_,rfl,rdG (s2 _ _ hK.o) (Bw T) #[x.wn,x.room,rfl,hK.wn.same s2,hx.wn,hx.wl,hx.ws,fun H3 t3=>#[_,_,rfl,rfl,LQ tb_g% (LR (ig hx.ws (Kx.abb hx.wl))),?_]]];have s3:=s2.trans t3;show#[_,rfl,rdG (s3 _ _ hK.o) (Xl T) #[x.up.p,x.up.x,rfl,hK.up.same s3,hx.u1,hx.u2,hx.u3,hx.u4,hx.u5,fun H4 t4=>?_]];have s4:=s3.trans t4;rw[ar8];show#[_,_,rfl,rfl,LQ tb_g% (LR (KQ hx.u2 hx.u3 hx.u4 hx.u5)),?_];show#[_,rfl,rdG (s4 _ _ hK.o) (Bx T) #[x.dn.p,x.dn.x,rfl,hK.dn.same s4,hx.d1,hx.d2,hx.d3,hx.d4,hx.d5,fun H5 t5=>?_]];have s5:=s4.trans t5;rw[ar8];show#[_,_,rfl,rfl,LQ tb_g% (LR (KQ hx.d2 hx.d3 hx.d4 hx.d5)),?_];show#[_,rfl,rdG (s5 _ _ hK.o) (jJ T) #[x.wi.p,x.wi.dx,x.wi.l,x.room,x.reach,x.wi.c,x.wi.ps,rfl,hK.wi.same s5,hx.i1,by have:=hx.i2;lia,fun H6 t6=>#[_,_,rfl,rfl,LQ tb_g% (LR (ig hx.i1 hx.apn)),?_]]];have s6:=s5.trans t6;have D6:=hK.di.same s6;show#[_,rfl,rdG (s6 _ _ hK.o) (rK T) (rdG D6.o (iQ T) #[_,rfl,rdG (s6 _ _ hK.o) (rK T) (rdG D6.o (gq T) #[tb_g%,fun m hm=>?_])])]
  k_dat (nwA hm,H7,t7,f7) "n"
  have s7:=s6.trans t7;have D7:=D6.same t7;show#[_,rfl,rdG (s7 _ _ hK.o) (rK T) (rdG D7.o (mF T) #[m,x.di.l,_,_,rfl,rfl,f7,D7.l,?_,fun k hk=>?_])]
  ·have:=aJ (n:=66) tb_g%;have:=hx.s2;rw[aD];show 2+_<=_;lia
  have t8:=Same.new (o:=.lst ([.int x.di.n,.int x.di.v]++(srt (My.up x.di.v x.di.C)).map V.int)) hk;show#[k,[x.di.n,x.di.v]++srt (My.up x.di.v x.di.C),rfl,by rw[aj,aR];rfl,hx.s1,by have:=hx.aha;lia,fun H8 t9=>#[_,_,rfl,rfl,LQ tb_g% (LR (ig hx.s1 hx.aha)),?_]];have s8:=s7.trans (t8.trans t9);have B8:=hK.ba.same s8;show#[_,rfl,rdG (s8 _ _ hK.o) (iR T) (rdG B8.o (Bu T) #[x.ba.l,L4 x.ba.q,rfl,B8.l,hx.b,tb_g%,fun H9 t10=>#[_,_,rfl,rfl,LQ tb_g% (LR (ig hx.b tb_g%)),?_]])];have s9:=s8.trans t10;have e0:=rM (a:=aW "keep ") (b:=aW "keep") tb_g% (ts:=([x.room,x.reach,x.span]:List Int).map sI) (kZ _ _);have e1:=rM (a:=aW "came ") (b:=aW "came") tb_g% (ts:=(fN x.cm).map sI) (by unfold fN;exact kZ _ _);have e2:=rM (a:=aW "went ") (b:=aW "went") tb_g% (ts:=(fN x.wn).map sI) (by unfold fN;exact kZ _ _);have e3:=rM (a:=aW "up ") (b:=aW "up") tb_g% (ts:=rT x.up.x) (ar7 _);have e4:=rM (a:=aW "down ") (b:=aW "down") tb_g% (ts:=rT x.dn.x) (ar7 _);have e5:=rM (a:=aW "window ") (b:=aW "window") tb_g% (ts:=(x.wi.c::(bx x.wi.ps).flatMap bI).map sI) (kZ _ _);have e6:=rM (a:=aW "seen ") (b:=aW "seen") tb_g% (ts:=([x.di.n,x.di.v]++srt (My.up x.di.v x.di.C)).map sI) (kZ _ _);have e7:=rM (a:=aW "sums ") (b:=aW "sums") tb_g% (ts:=(L4 x.ba.q).map sI) (kZ _ _);show#[tb_g%,fun L hL=>?_];show#[rfl,_,rfl,aW "\n",L,jf x,rfl,rfl,.inl (.inl ?_),by decide +kernel,hx.sum,q _ (s9.trans (Same.new hL))];rw[aj];unfold jf;rw[<-e0,<-e1,<-e2,<-e3,<-e4,<-e5,<-e6,<-e7];rfl
inductive Tr where
 |f (v:V)
 |l (ts:List Tr)
 |t (ts:List Tr)
inductive Is (H:Hp) (P:Addr->Prop):Nat->V->Tr->Prop where
 |flat {n:Nat} {v:V} (h:yc v=true):Is H P n v (.f v)
 |lst {n:Nat} {a:Addr} {xs:List V} {ts:List Tr} (pa:P a) (ha:H a=some (.lst xs)) (hl:xs.length=ts.length) (h:∀(i:Nat)(x:V)(t:Tr),xs[i]? = some x->ts[i]? = some t->Is H P n x t):Is H P (n+1) (.ref a) (.l ts)
 |tup {n:Nat} {a:Addr} {xs:List V} {ts:List Tr} (ha:H a=some (.tup xs)) (hl:xs.length=ts.length) (h:∀(i:Nat)(x:V)(t:Tr),xs[i]? = some x->ts[i]? = some t->Is H P n x t):Is H P (n+1) (.ref a) (.t ts)
theorem Is.keep{H H':Hp}{P P':Addr->Prop}(k1:∀b xs,P b->H b=some (.lst xs)->H' b=some (.lst xs))(k2:∀b xs,H b=some (.tup xs)->H' b=some (.tup xs))(kp:∀b,P b->P' b){n:Nat}{v:V}{t:Tr}(h:Is H P n v t):Is H' P' n v t:=by
 induction h with
 |flat h=>exact .flat h
 |lst pa ha hl _ ih=>exact .lst (kp _ pa) (k1 _ _ pa ha) hl ih
 |tup ha hl _ ih=>exact .tup (k2 _ _ ha) hl ih
theorem Is.Ww{P P':Addr->Prop}(h:Is H P n v t)(k1:∀b xs,P b->H b=some (.lst xs)->H' b=some (.lst xs)/\P' b)(k2:∀b xs,H b=some (.tup xs)->H' b=some (.tup xs)):Is H' P' n v t:=by
 induction h with
 |flat h=>exact .flat h
 |lst pa ha hl _ ih=>exact .lst (k1 _ _ pa ha).2 (k1 _ _ pa ha).1 hl ih
 |tup ha hl _ ih=>exact .tup (k2 _ _ ha) hl ih
theorem Is.same{P:Addr->Prop}(s:Same H H')(h:Is H P n v t):Is H' P n v t:=h.keep (fun _ _ _=>s _ _) (fun _ _=>s _ _) fun _ p=>p
theorem Is.upd{P:Addr->Prop}(hL:H L=some (.lst zs))(n1:¬ P L)(h:Is H P n v t):Is (L2.upd H L (.lst ys)) P n v t:=
 h.keep (fun b xs p e=>by rwa[ao (fun z=>n1 (by rw[<-z];exact p))]) (fun b xs e=>by rwa[ao (fP e hL (by intro z;cases z))]) fun _ p=>p
theorem Is.alike{K:aH}{P P':Addr->Prop}(h:Is H P n u t):∀{v:V},Is H P' n v t->Alike K H n u v:=by
 induction h with
 |flat h=>intro v g;cases g with|flat _=>exact .flat h
 | @lst n a xs ts _ ha hl _ ih =>
  intro v g;cases g with
  | @lst _ b ys _ _ hb gl gh =>
   exact .lst (.inl (.inl ha)) (.inl (.inl hb)) (hl.trans gl.symm) fun i x y e1 e2=>by
    have li:i<ts.length:=by rw[<-hl];exact(dI.mp e1).1
    exact ih i x _ e1 (eE li) (gh i y _ e2 (eE li))
 | @tup n a xs ts ha hl _ ih =>
  intro v g;cases g with
  | @tup _ b ys _ hb gl gh =>
   exact .tup (.inl (.inl ha)) (.inl (.inl hb)) (hl.trans gl.symm) fun i x y e1 e2=>by
    have li:i<ts.length:=by rw[<-hl];exact(dI.mp e1).1
    exact ih i x _ e1 (eE li) (gh i y _ e2 (eE li))
inductive IsL (H:Hp) (P:Addr->Prop) (n:Nat):List V->List Tr->Prop where
 |nil:IsL H P n [] []
 |cons {v:V} {t:Tr} {vs:List V} {ts:List Tr} (h:Is H P n v t) (r:IsL H P n vs ts):IsL H P n (v::vs) (t::ts)
theorem IsL.at{P:Addr->Prop}(h:IsL H P n vs ts):vs.length=ts.length/\∀(i:Nat)(x:V)(t:Tr),vs[i]? = some x->ts[i]? = some t->Is H P n x t:=by
 induction h with
 |nil=>show#[rfl,fun i x t e=>by cases i <;> cases e]
 |cons h _ ih =>
  show#[mN (· + 1) ih.1,fun i x t e1 e2=>?_];cases i with
  |zero=>cases e1;cases e2;exact h
  |succ i=>exact ih.2 i x t e1 e2
theorem IsL.imp{P P':Addr->Prop}(f:∀v t,Is H P n v t->Is H' P' n v t)(h:IsL H P n vs ts):IsL H' P' n vs ts:=by
 induction h with
 |nil=>exact .nil
 |cons h _ ih=>exact .cons (f _ _ h) ih
theorem IsL.snoc{P:Addr->Prop}(h:IsL H P n vs ts)(g:Is H P n v t):IsL H P n (vs++[v]) (ts++[t]):=by
 induction h with
 |nil=>exact .cons g .nil
 |cons h _ ih=>exact .cons h ih
theorem Is.ofL{P:Addr->Prop}(pa:P a)(ha:H a=some (.lst xs))(h:IsL H P n xs ts):Is H P (n+1) (.ref a) (.l ts):=.lst pa ha h.at.1 h.at.2
theorem Is.ofT{P:Addr->Prop}(ha:H a=some (.tup xs))(h:IsL H P n xs ts):Is H P (n+1) (.ref a) (.t ts):=.tup ha h.at.1 h.at.2
theorem IsL.map{α:Type}{H:Hp}{P:Addr->Prop}{n:Nat}{f:α->V}{g:α->Tr}:∀{xs:List α},(∀x∈xs,Is H P n (f x) (g x))->IsL H P n (xs.map f) (xs.map g)
 |[],_=>.nil
 |x::r,h=>.cons (h x (bY ..)) (IsL.map fun y m=>h y (cF _ m))
abbrev iT(i:Int):Tr:=.f (.int i)
theorem pC{P:Addr->Prop}(i:Int):Is H P n (.int i) (iT i):=.flat rfl
theorem abd{P:Addr->Prop}{ns:List Int}(pa:P a)(h:H a=some (.lst (ns.map V.int))):Is H P (n+1) (.ref a) (.l (ns.map iT)):=.ofL pa h (.map fun i _=>pC i)
structure Gw(H G:Hp)(L:Addr)(n:Nat)(xs:List V)(ts:List Tr):Prop where
 s:Same H G
 fL:H L=none
 gL:G L=some (.lst xs)
 is:IsL G (fun a=>H a=none/\a≠L) n xs ts
theorem Gw.push(h:Gw H G L n xs ts)(s:Same G G')(g:Is G' (fun a=>G a=none) n v t):Gw H (L2.upd G' L (.lst (xs++[v]))) L n (xs++[v]) (ts++[t]):=by
 have gL:=s _ _ h.gL;have g2:Is G' (fun a=>H a=none/\a≠L) n v t:=g.keep (fun _ _ _ e=>e) (fun _ _ e=>e) fun b p=>#[h.s.free p,aL (ak h.gL p)];show#[fun b o e=>by rw[ao (ak e h.fL)];exact s _ _ (h.s b o e),h.fL,aj,((h.is.imp fun _ _ q=>q.same s).snoc g2).imp fun _ _ q=>q.upd gL fun z=>z.2 rfl]
theorem Gw.done(h:Gw H G L n xs ts):Is G (fun a=>H a=none) (n+1) (.ref L) (.l ts):=.ofL h.fL h.gL (h.is.imp fun _ _ q=>q.keep (fun _ _ _ e=>e) (fun _ _ e=>e) fun _ p=>p.1)
theorem ars:∀{c:Tab},(keys c).Nodup->∀a∈c,∀b∈c,a.1=b.1->a=b:=fun {c} nd a ma b mb e=>by
 have h1:=mR nd ma;have h2:=mR nd mb;rw[e,h2]at h1;exact jO e (bC h1).symm
theorem ar9{α:Type}{le:α->α->Prop}:∀{xs ys:List α},(∀a∈xs,∀b∈xs,le a b->le b a->a=b)->xs.Perm ys->xs.Pairwise le->ys.Pairwise le->xs=ys
 |[],ys,_,p,_,_=>by rw[ad4.mp p]
 |x::xs,[],_,p,_,_=>mM p (by simp)
 |x::xs,y::ys,an,p,h1,h2=>by
  have a1:=fW.mp h1;have a2:=fW.mp h2;have m1:x∈y::ys:=p.mem_iff.mp bY;have m2:y∈x::xs:=p.mem_iff.mpr bY;have e:x=y:=by
   rcases aP.mp m1 with z|z
   ·exact z
   ·rcases aP.mp m2 with z'|z'
    ·exact z'.symm
    ·exact an x bY y m2 (a1.1 y z') (a2.1 x z)
  subst e;rw[ar9 (fun a ma b mb=>an a (cF _ ma) b (cF _ mb)) (afn p) a1.2 a2.2]
theorem aru{c L:Tab}{M:Int}(nd:(keys c).Nodup)(p:L.Perm c)(hv:∀q∈c,0<=q.2/\q.2<M)(h:L.Pairwise fun a b=>a.1*M+a.2<=b.1*M+b.2):L=eV c:=by
 have h1:L.Pairwise fun a b:Int × Int=>a.1<=b.1:=atM (fun {a b} ma mb hab=>by
  have va:=hv a (p.mem_iff.mp ma);have vb:=hv b (p.mem_iff.mp mb);refine Int.le_of_not_gt fun g=>?_;have:(b.1+1)*M<=a.1*M:=Fx tb_g% tb_g%;rw [Du] at this;lia) h
 have h2:(eV c).Pairwise fun a b:Int × Int=>a.1<=b.1:=by
  have:=Xq (le:=fun a b:Int × Int=>decide (a.1<=b.1)) (fun a b c h1 h2=>by simp only[decide_eq_true_eq]at *; lia) (fun a b=>by simp only[Y6,decide_eq_true_eq];lia) c;exact this.imp fun h=>mS h
 exact ar9 (le:=fun a b:Int × Int=>a.1<=b.1) (fun a ma b mb e1 e2=>ars nd a (p.mem_iff.mp ma) b (p.mem_iff.mp mb) tb_g%) (p.trans (O4 _ _).symm) h1 h2
def mxV:Tab->Int
 |[]=>0
 |p::r=>max p.2 (mxV r)
theorem apo:∀{c:Tab}{p:Int × Int},p∈c->p.2<=mxV c
 |x::r,p,m=>by
  walk_at "m"
  ·exact Int.le_max_left _ _
  ·exact Dt (apo m) (Int.le_max_right _ _)
def pT(p:Int × Int):Tr:=.t [iT p.1,iT p.2]
def oT(o:Option Int):Tr:=.f (oV o)
theorem is_o{P:Addr->Prop}(o:Option Int):Is H P n (oV o) (oT o):=.flat (by cases o <;> rfl)
def Hy(room:Nat)(f:Fq):Tr:=.t [iT room,iT f.t,iT f.l,.l ((eV f.c).map pT)]
def Xm(f:Rs):Tr:=.t [iT f.r,iT f.tt,iT f.ov,iT f.un,iT f.tn,oT f.mi,oT f.ma,.l (f.ls.map fun l=>.l (l.map iT))]
def bT(b:WN.Box):Tr:=.t [iT b.f,iT b.l,iT b.s]
def apq(room:Nat)(reach:Int)(f:Wi):Tr:=.t [iT room,iT reach,iT f.c,.l ((bx f.ps).map bT)]
noncomputable def apr(room:Nat)(f:Di):Tr:=.t [iT room,iT f.n,iT f.v,.l ((srt (My.up f.v f.C)).map iT)]
def asa(span:Int)(q:Q4):Tr:=.t [iT span,.l ((L4 q).map iT)]
noncomputable def Hz(x:KS):Tr:=.l [iT x.room,iT x.reach,iT x.span,Hy x.room x.cm,Hy x.room x.wn,Xm x.up.x,Xm x.dn.x,apq x.room x.reach x.wi,apr x.room x.di,asa x.span x.ba.q]
theorem ER.tree(e:ER f g):Xm f=Xm g:=by unfold Xm;rw[e.r,e.tt,e.ov,e.un,e.tn,e.mi,e.ma,e.ls]
theorem EF.tree(e:EF f g):Hy room f=Hy room g:=by unfold Hy;rw[e.t,e.l,e.c]
theorem Eqp.tree(e:Eqp x y):Hz x=Hz y:=by
 unfold Hz apq apr;rw[e.room,e.reach,e.span,e.cm.tree,e.wn.tree,e.up.tree,e.dn.tree,e.wi.c,e.wi.b,e.di.n,e.di.v,e.di.C,e.ba]
def avJ(A:Ad):Sp:=fun vs H Q _=>Ex2 fun f room=>KC (vs=[.ref f.p]) (mY A H room f) ((keys f.c).Nodup) ((∀p∈f.c,1<=p.2)) (f.c.length<=63) (∀t H',Same H H'->Is H' (fun a=>H a=none) 3 (.ref t) (Hy room f)->Q (.ref t) H')
theorem VB(T:Tx K mg A):FnK P w base T.wW CX0 1 (avJ A):=by
 k_dat (T.wW,T.wW.ok,Vp) "f"
 ·obtain⟨f,room,rfl,hF,nd,ps,ln,q⟩:=h;show#[_,by k_dat ([dO],[gO (qw rfl) (by rfl) T.Ey Qk ?_,dj ab9 (by rfl) T.kE La ?_],[jo [("_law_one",~~~s+1)] ["_law_thing","_law_one"] [0] (te:=(tTup (Lf _ (Lf (tOp (QW K) (abP K _ "counts") _) aiM)))) ?_ (fun _ _ _ _=>iz) (fun _ _ _ _=>(afQ (bV (pv 0) (bV (QS (ixG tb_g%) (pf 1) (pv 0) (fun _ _=>rfl)) fO))))]) "p",?_];show#[_,rfl,rdG hF.o (xP T) #[_,rfl,rdG hF.o (uY T) #[_,rfl,rdG hF.o (Bt T) ?_]]];show#[_,rfl,rdG hF.o (jH T) (.inr #[f.d,_,rfl,.inl hF.d,fun p hp=>?_])];rw[ab1]
  k_dat (nwA hp,H1,s1,f1) "n"
  show#[p,rfl,#[_,.inl (.inl f1)],fun D hD=>?_];have kl:(keys f.c).length=f.c.length:=aD _;refine fZ (K:=K) (a:=p) (xs:=(keys f.c).map V.int) (fun i ys G=>∃(zs:List (Addr × (Int × Int))),uV (ys=zs.map (fun z=>V.ref z.1)) (zs.map (·.2)=f.c.take i) (G D=some (.lst ys)) ((∀z∈zs,G z.1=some (.tup [.int z.2.1,.int z.2.2]))) (Same H1 G)) #[[],rfl,rfl,aj,fun _ h=>(nomatch h),Same.new hD] ?_ ?_ ?_ ?_
  ·rintro i ys G hi ⟨zs,rfl,ez,gD,gt,sG⟩;show#[.inl (.inl (sG _ _ f1)),gD,aJ ?_];have:=mN fX ez;rw[aD,eX]at this;rw[aD];lia
  ·rintro i ys G x hx ⟨zs,rfl,ez,gD,gt,sG⟩
   k_dat (k,hk,int_at,hx) "z"
   obtain⟨z,hz,rfl⟩:∃z,f.c[i]? = some z/\z.1=k:=by
    unfold keys at hk;rw[cP]at hk;cases e:f.c[i]? with
    |none=>rw[e]at hk;cases hk
    |some z=>rw[e]at hk;show#[z,rfl,bC hk]
   have hG:=hF.same (s1.trans sG);show#[_,rfl,_,rfl,rdG hG.o (jH T) #[_,rfl,anC (.inl hG.d) (ab2 (mR nd (mv hz))) #[tb_g%,fun t ht=>?_]]];have nt:D≠t:=ak gD ht;show#[by rwa[ao nt],zs++[(t,z)],by rw[aR];rfl,?_,aj,fun y m=>?_,fun b o e=>?_]
   ·rw[aR,ez,jg,hz];rfl
   ·walk_at "e"
    ·have h1:=gt y m;rwa[ao (fP h1 gD (by intro z;cases z)),ao (ak h1 ht)]
    ·rw[bO.mp m,ao (aL nt),aj]
   ·rw[ao (ak e hD),ao (ak (sG b o e) ht)];exact sG b o e
  ·rintro ys G ⟨zs,rfl,ez,gD,gt,sG⟩;rw[aD,kl,jC]at ez;have zin:∀z∈zs,z.2∈f.c:=fun z m=>by rw[<-ez];exact yQ m
   show#[D,zs,mxV f.c+1,rfl,gD,by have:=mN fX ez;rw[aD]at this;lia,fun z m=>#[gt z m,by have:=ps _ (zin z m);lia,by have:=apo (zin z m);lia],fun l zs' hl pm so=>#[tb_g%,fun t ht=>?_]];have e2:zs'.map (·.2)=eV f.c:=aru (M:=mxV f.c+1) nd (by rw[<-ez];exact pm.map _) (fun w m=>#[by have:=ps _ m;lia,by have:=apo m;lia]) (Cz.mpr so);have sl:=Same.new (o:=.lst (zs'.map fun z=>V.ref z.1)) hl;have st:Same G (upd (upd G l (.lst (zs'.map fun z=>V.ref z.1))) t (.tup [.int room,.int f.t,.int f.l,.ref l])):=sl.trans (Same.new ht);refine q t _ (s1.trans (sG.trans st)) (.ofT aj (.cons (pC _) (.cons (pC _) (.cons (pC _) (.cons (.ofL (xs:=zs'.map fun z=>V.ref z.1) ((s1.trans sG).free hl) ?_ ?_) .nil)))))
   ·rw[ao (ak aj ht)];exact aj
   ·rw[<-e2,dB];exact .map fun z m=>.ofT (st _ _ (gt z (pm.mem_iff.mp m))) (.cons (pC _) (.cons (pC _) .nil))
  ·exact acu (iW (bW 0) (iW (Bq (uL (bW 1)) (bW 0)) uK))
def arv(A:Ad):Sp:=fun vs H Q _=>Ex2 fun p f=>uU (vs=[.ref p]) (RnX A H p f) (f.ls.length<=400) (∀t H',Same H H'->Is H' (fun a=>H a=none) 3 (.ref t) (Xm f)->Q (.ref t) H')
theorem ahb(T:Tx K mg A):FnK P w base T.Kl CX0 1 (arv A):=by
 k_dat (T.Kl,T.Kl.ok,EY) "f"
 ·obtain⟨p,f,rfl,hF,ln,q⟩:=h;show#[_,by k_dat ([dO],[EY.nd],[jE 1 EY.nd [] ["_law_things"] [] (te:=(tCB (anl K) (Lf _ aiM))) ?_ (fun _ _ _ _=>iz) (fun _ _ _ _=>(gO (qw rfl) (by rfl) T.Ey Qk (bV (pv 0) fO)))]) "p",?_]
  k_dat lq "c"
  show#[_,rfl,rdG hF.o (gb T) #[f.a,rfl,#[_,.inl (.inl hF.l.o)],fun D hD=>?_]];refine fZ (K:=K) (a:=f.a) (xs:=f.bs.map V.ref) (fun i ys G=>∃(zs:List Addr),uV (ys=zs.map V.ref) (zs.length=i) ((∀(j:Nat)(b:Addr)(l:List Int),zs[j]? = some b->f.ls[j]? = some l->G b=some (.lst (l.map V.int))/\b≠D/\H b=none)) (G D=some (.lst ys)) (Same H G)) #[[],rfl,rfl,fun j b l e=>by (cases j <;> cases e),aj,Same.new hD] ?_ ?_ ?_ ?_
  ·rintro i ys G hi ⟨zs,rfl,lz,gz,gD,sG⟩;show#[.inl (.inl (sG _ _ hF.l.o)),gD,aJ ?_];rw[aD]at hi ⊢;have:=hF.l.n;lia
  ·rintro i ys G x hx ⟨zs,rfl,lz,gz,gD,sG⟩;rw[cP]at hx;cases eb:f.bs[i]? with
   |none=>rw[eb]at hx;cases hx
   |some b =>
    rw[eb]at hx;obtain rfl:=bC hx;have li:i<f.ls.length:=by rw[<-hF.l.n];exact(dI.mp eb).1
    have el:=eE li;have hb:=hF.l.e i b _ eb el;show#[_,rfl,.inl #[b,_,rfl,.inl (.inl (.inl (sG _ _ hb))),fun t ht=>?_]];have nt:D≠t:=ak gD ht;show#[by rwa[ao nt],zs++[t],by rw[aR];rfl,by rw[cu,lz];rfl,fun j c l e1 e2=>?_,aj,fun c o e=>?_]
    ·rcases iy j zs.length with lj|lj
     ·rw[OJ lj]at e1;obtain⟨g1,g2,g3⟩:=gz j c l e1 e2;show#[by rwa[ao g2,ao (ak g1 ht)],g2,g3]
     ·rw[Ft lj]at e1;obtain⟨j0,rfl⟩:∃h:j-zs.length=0,c=t:=by
       cases hj:j-zs.length with
       |zero=>rw[hj]at e1;show#[rfl,(bC e1).symm]
       |succ m=>rw[hj]at e1;cases e1
      obtain rfl:j=i:=by lia
      rw[el]at e2;obtain rfl:=bC e2;show#[by rw[ao (aL nt)];exact aj,aL nt,sG.free ht]
    ·rw[ao (ak e hD),ao (ak (sG c o e) ht)];exact sG c o e
  ·rintro ys G ⟨zs,rfl,lz,gz,gD,sG⟩;have hG:=hF.same sG;rw[aD,hF.l.n]at lz;show#[_,rfl,rdG hG.o (xq T) #[_,rfl,rdG hG.o (fH T) #[_,rfl,rdG hG.o (xr T) #[_,rfl,rdG hG.o (qU T) #[_,rfl,rdG hG.o (jq T) #[_,rfl,rdG hG.o (mW T) #[_,rfl,rdG hG.o (o9 T) #[_,rfl,tb_g%,fun t ht=>?_]]]]]]]];have st:=Same.new (o:=.tup [.int f.r,.int f.tt,.int f.ov,.int f.un,.int f.tn,oV f.mi,oV f.ma,.ref D]) ht;refine q t _ (sG.trans st) (.ofT aj (.cons (pC _) (.cons (pC _) (.cons (pC _) (.cons (pC _) (.cons (pC _) (.cons (is_o _) (.cons (is_o _) (.cons (.lst hD (st _ _ gD) ?_ ?_) .nil)))))))))
   ·rw[aD,aD,lz]
   ·intro i x tr e1 e2;rw[cP]at e1 e2;cases ez:zs[i]? with
    |none=>rw[ez]at e1;cases e1
    |some b =>
     cases el:f.ls[i]? with
     |none=>rw[el]at e2;cases e2
     |some l =>
      rw[ez]at e1;rw[el]at e2;obtain rfl:=bC e1;obtain rfl:=bC e2;exact abd (gz i b l ez el).2.2 (st _ _ (gz i b l ez el).1)
  ·exact ahS (fun vs H Q Q' hq h=>by
    rcases h with⟨p,ys,e,s,k⟩|⟨a,kvs,e,r,k⟩
    ·exact .inl #[p,ys,e,s,fun l hl=>hq _ _ (k l hl)]
    ·exact .inr #[a,kvs,e,r,fun l hl=>hq _ _ (k l hl)]) (iW (bW 0) uK)
theorem aps{P:Addr->Prop}(pq:P q)(hb:Bxs G l ps)(hq:G q=some (.lst (ps.map fun p=>V.ref p.1))):Is G P (n+2) (.ref q) (.l ((bx ps).map bT)):=by
 refine .ofL pq hq ?_;unfold bx;rw[dB];exact .map fun p m=>.ofT (hb.t p m) (.cons (pC _) (.cons (pC _) (.cons (pC _) .nil)))
def arw(A:Ad):Sp:=fun vs H Q _=>Ex2 fun x n=>uU (vs=[.ref x.k]) (Kp A H x) (Kh x n) (∀v H',Same H H'->Is H' (fun a=>H a=none) 4 (.ref v) (Hz x)->Q (.ref v) H')
theorem ahc(T:Tx K mg A):FnK P w base T.Ko CX0 2 (arw A):=by
 k_dat (T.Ko,T.Ko.ok,TF) "f"
 ·obtain⟨x,n,rfl,hK,hG,q⟩:=h;obtain⟨W1,ok1⟩:=hG.cm.ok;obtain⟨W2,ok2⟩:=hG.wn.ok;have r64:=hG.r64;have lu:=fJ hG.up.g hG.up.t hG.few;have ld:=fJ hG.dn.g hG.dn.t hG.few;have hP:=hK.pp;show#[_,by k_dat ([],[TF.nd,aB (VB T) ?_,aB (ahb T) ?_,gO (qw rfl) (by rfl) T.Ey Qk ?_],[]) "p",?_]
  k_dat lq "c"
  show#[_,rfl,rdG hK.o (jJ T) #[_,rfl,rdG hK.o (rK T) ?_]]
  k_dat lqg "c"
  show#[_,rfl,rdG hK.o (Hv T) #[_,rfl,rdG hK.o (Bb T) #[_,rfl,rdG hK.o (xQ T) ?_]]];show#[_,rfl,rdG hK.o (Bv T) #[x.cm,x.room,rfl,hP.cm,ok1.nd,ok1.pos,by have:=hG.cm.k;have:=hG.few;lia,fun t1 H1 s1 i1=>?_]];show#[_,rfl,rdG (s1 _ _ hK.o) (Bw T) #[x.wn,x.room,rfl,hP.wn.same s1,ok2.nd,ok2.pos,by have:=hG.wn.k;have:=hG.few;lia,fun t2 H2 s2 i2=>#[tb_g%,fun L hL=>?_]]]
  k_dat lqg "c"
  have s12:=s1.trans s2;have WL:Gw H (upd H2 L (.lst [.int x.room,.int x.reach,.int x.span,.ref t1,.ref t2])) L 3 [.int x.room,.int x.reach,.int x.span,.ref t1,.ref t2] [iT x.room,iT x.reach,iT x.span,Hy x.room x.cm,Hy x.room x.wn]:=by
   have sL:=Same.new (o:=.lst [.int x.room,.int x.reach,.int x.span,.ref t1,.ref t2]) hL;have fl:∀a,H1 a=none->H a=none:=fun a e=>s1.free e;have nl:∀{a:Addr}{xs:List V},H2 a=some (.lst xs)->a≠L:=fun e=>ak e hL;show#[s12.trans sL,s12.free hL,aj,.cons (pC _) (.cons (pC _) (.cons (pC _) (.cons ?_ (.cons ?_ .nil))))]
   ·exact(i1.same s2).Ww (fun b xs p e=>#[sL _ _ e,p,nl e]) fun b xs e=>sL _ _ e
   ·exact i2.Ww (fun b xs p e=>#[sL _ _ e,fl _ p,nl e]) fun b xs e=>sL _ _ e
  generalize upd H2 L (.lst [.int x.room,.int x.reach,.int x.span,.ref t1,.ref t2])=G0 at WL ⊢;have P0:=hP.same WL.s;show#[_,rfl,.inl #[rfl,_,.inl (.inl WL.gL)],_,rfl,rdG (WL.s _ _ hK.o) (Xl T) #[x.up.p,x.up.x,rfl,P0.up,by lia,fun t4 G4 s4 i4=>?_]];show#[L,_,_,rfl,rfl,s4 _ _ WL.gL,aJ (by simp),?_];have W5:=WL.push s4 i4;generalize upd G4 L _=G5 at W5 ⊢
  k_dat lqn "c"
  have P5:=hP.same W5.s;show#[_,rfl,.inl #[rfl,_,.inl (.inl W5.gL)],_,rfl,rdG (W5.s _ _ hK.o) (Bx T) #[x.dn.p,x.dn.x,rfl,P5.dn,by lia,fun t6 G6 s6 i6=>?_]];show#[L,_,_,rfl,rfl,s6 _ _ W5.gL,aJ (by simp),?_];have W7:=W5.push s6 i6;generalize upd G6 L _=G7 at W7 ⊢
  k_dat lqn "c"
  have P7:=hP.same W7.s;show#[_,rfl,.inl #[rfl,_,.inl (.inl W7.gL)],?_];show#[_,rfl,rdG P7.wi.o (xK T) #[_,rfl,rdG P7.wi.o (uW T) #[_,rfl,rdG P7.wi.o (gj T) #[_,rfl,rdG P7.wi.o (mX T) (.inl #[_,_,rfl,.inl (.inl (.inl P7.wi.b.l)),fun q1 hq1=>#[tb_g%,fun t1 ht1=>?_]])]]]];have sq1:=(Same.new (o:=.lst (x.wi.ps.map fun p=>V.ref p.1)) hq1).trans (Same.new (o:=.tup [.int x.room,.int x.reach,.int x.wi.c,.ref q1]) ht1);have gq1:(upd (upd G7 q1 (.lst (x.wi.ps.map fun p=>V.ref p.1))) t1 (.tup [.int x.room,.int x.reach,.int x.wi.c,.ref q1])) q1=some (.lst (x.wi.ps.map fun p=>V.ref p.1)):=by rw[ao (ak aj ht1)];exact aj
  have gt1:(upd (upd G7 q1 (.lst (x.wi.ps.map fun p=>V.ref p.1))) t1 (.tup [.int x.room,.int x.reach,.int x.wi.c,.ref q1])) t1=some (.tup [.int x.room,.int x.reach,.int x.wi.c,.ref q1]):=aj;generalize upd (upd G7 q1 (.lst (x.wi.ps.map fun p=>V.ref p.1))) t1 (.tup [.int x.room,.int x.reach,.int x.wi.c,.ref q1])=GW at sq1 gq1 gt1 ⊢;have TW:Is GW (fun a=>G7 a=none) 3 (.ref t1) (apq x.room x.reach x.wi):=.ofT gt1 (.cons (pC _) (.cons (pC _) (.cons (pC _) (.cons (aps hq1 (P7.wi.b.same sq1) gq1) .nil))));show#[L,_,_,rfl,rfl,sq1 _ _ W7.gL,aJ (by simp),?_];have WNW:=W7.push sq1 TW;generalize upd GW L _=GNW at WNW ⊢;have PNW:=hP.same WNW.s;show#[_,rfl,.inl #[rfl,_,.inl (.inl WNW.gL)],?_];show#[_,rfl,rdG PNW.di.o (xM T) #[_,rfl,rdG PNW.di.o (iQ T) #[_,rfl,rdG PNW.di.o (gq T) #[_,rfl,rdG PNW.di.o (mF T) (.inl #[_,_,rfl,.inl (.inl (.inl PNW.di.l)),fun q2 hq2=>#[tb_g%,fun t2 ht2=>?_]])]]]];have sq2:=(Same.new (o:=.lst ((srt (My.up x.di.v x.di.C)).map V.int)) hq2).trans (Same.new (o:=.tup [.int x.room,.int x.di.n,.int x.di.v,.ref q2]) ht2);have gq2:(upd (upd GNW q2 (.lst ((srt (My.up x.di.v x.di.C)).map V.int))) t2 (.tup [.int x.room,.int x.di.n,.int x.di.v,.ref q2])) q2=some (.lst ((srt (My.up x.di.v x.di.C)).map V.int)):=by rw[ao (ak aj ht2)];exact aj
  have gt2:(upd (upd GNW q2 (.lst ((srt (My.up x.di.v x.di.C)).map V.int))) t2 (.tup [.int x.room,.int x.di.n,.int x.di.v,.ref q2])) t2=some (.tup [.int x.room,.int x.di.n,.int x.di.v,.ref q2]):=aj;generalize upd (upd GNW q2 (.lst ((srt (My.up x.di.v x.di.C)).map V.int))) t2 (.tup [.int x.room,.int x.di.n,.int x.di.v,.ref q2])=GD at sq2 gq2 gt2 ⊢;have TD:Is GD (fun a=>GNW a=none) 3 (.ref t2) (apr x.room x.di):=.ofT gt2 (.cons (pC _) (.cons (pC _) (.cons (pC _) (.cons (abd hq2 gq2) .nil))));show#[L,_,_,rfl,rfl,sq2 _ _ WNW.gL,aJ (by simp),?_];have WND:=WNW.push sq2 TD;generalize upd GD L _=GND at WND ⊢;have PND:=hP.same WND.s;show#[_,rfl,.inl #[rfl,_,.inl (.inl WND.gL)],?_];show#[_,rfl,rdG (WND.s _ _ hK.o) (iR T) (rdG PND.ba.o (Ox T) #[_,rfl,rdG (WND.s _ _ hK.o) (iR T) (rdG PND.ba.o (Bu T) (.inl #[_,_,rfl,.inl (.inl (.inl PND.ba.l)),fun q3 hq3=>#[tb_g%,fun t3 ht3=>?_]]))])];have sq3:=(Same.new (o:=.lst ((L4 x.ba.q).map V.int)) hq3).trans (Same.new (o:=.tup [.int x.span,.ref q3]) ht3);have gq3:(upd (upd GND q3 (.lst ((L4 x.ba.q).map V.int))) t3 (.tup [.int x.span,.ref q3])) q3=some (.lst ((L4 x.ba.q).map V.int)):=by rw[ao (ak aj ht3)];exact aj
  have gt3:(upd (upd GND q3 (.lst ((L4 x.ba.q).map V.int))) t3 (.tup [.int x.span,.ref q3])) t3=some (.tup [.int x.span,.ref q3]):=aj;generalize upd (upd GND q3 (.lst ((L4 x.ba.q).map V.int))) t3 (.tup [.int x.span,.ref q3])=GB at sq3 gq3 gt3 ⊢;have TB:Is GB (fun a=>GND a=none) 3 (.ref t3) (asa x.span x.ba.q):=.ofT gt3 (.cons (pC _) (.cons (abd hq3 gq3) .nil));show#[L,_,_,rfl,rfl,sq3 _ _ WND.gL,aJ (by simp),?_];have WNB:=WND.push sq3 TB;generalize upd GB L _=GNB at WNB ⊢;have PNB:=hP.same WNB.s;show#[_,rfl,q _ _ WNB.s WNB.done]
def avK:Sp:=fun vs H Q _=>∃n:Int,vs=[.bl true,.int n]/\Q .non H
theorem mG(T:Tx K mg A):FnK P w base T.agT CX0 6 avK:=by
 k_dat (T.agT,T.agT.ok,aqO) "f"
 ·obtain⟨n,rfl,q⟩:=h
  walk_at "t"
  show#[_,rfl,true,rfl,q]
def spNum:Sp:=fun vs H Q _=>Ex2 fun n l=>mV (vs=[.str (Dec.tx (Dec.dg n)),.int l]) (n<10 ^ 60) (∀H',Same H H'->Q (.int n) H')
theorem HB(T:Tx K mg A):FnK P w base T.Ah CX0 7 spNum:=by
 k_dat (T.Ah,T.Ah.ok,aaZ) "f"
 ·obtain⟨n,l,rfl,hn,q⟩:=h;have hl:=Dec.Ac 60 tb_g% hn;have h0:0<(Dec.dg n).length:=XM.mpr (Dec.ahU n);obtain⟨_,ajP,ajQ⟩:=T.ajx;obtain⟨_,Ub,Uc⟩:=T.Tg;show#[_,by k_dat ([abO,au1,auA,pe_or],[dj (Br rfl) (by rfl) T.ah7 Za ?_,aB (mG T) ?_,gO agz (by rfl) T.n_int asw ?_],[gF (v:=.int 60) rfl Ub Uc,jo [] ["sign"] [] ?_ (fun _ _ _ _=>iz) (fun _ _ _ _=>(Oj aor (pv 0) (gF (v:=.str "0123456789") rfl ajP ajQ) (by with_unfolding_all rfl)))]) "p",?_]
  k_dat lq "c"
  have ln:(Dec.tx (Dec.dg n)).length=(Dec.dg n).length:=Dec.tO _;have sz:(Dec.tx (Dec.dg n)).length<=sizeLine:=cW (by rwa[ln]) (show 60<=sizeLine by decide);show#[_,rfl,.inl #[_,_,rfl,#[sz,rfl],?_]];show#[_,_,rfl,rfl,_,rfl,?_];rw[mI (by rw[ln];exact mP tb_g%)];show#[_,_,rfl,rfl,_,rfl,?_];rw[mI (by rw[ln];exact mP tb_g%)];show#[_,rfl,_,rfl,fun D hD=>?_];refine aov (fun i ys H1=>i<=(Dec.tx (Dec.dg n)).cps.size/\ys=jd i (V.bl true)/\Same H H1/\H1 D=some (.lst ys)) ?_ ?_ ?_ ?_ ?_
  ·show#[cg _,rfl,Same.new hD,aj]
  ·intro i ys H1 hi ⟨_,e,_,d⟩;show#[d,?_];rw[e,BZ];exact oM hi (oM (show(Dec.tx (Dec.dg n)).length<=60 by rwa[ln]) tb_g%)
  ·intro i ys H1 c hc ⟨hi,e,sm,d⟩;have mc:c∈(Dec.dg n).map jA:=by
    rw[<-Dec.o8,alP];exact Array.mem_of_getElem? hc
   have si:=Dec.aqE (Dec.aap n c mc);show#[_,rfl,_,_,rfl,rfl,d,(aeX.mp hc).1,?_,fun b u g=>by rw[ao (ak g hD)];exact sm b u g,aj];rw[si,e,<-O3]
  ·intro ys H1 ⟨_,e,sm,d⟩;have al:∀k,(jd k true).all id=true:=fun k=>by simp
   show#[D,jd _ true,rfl,.inl (.inl (by rwa[XR,<-e])),?_];show#[_,rfl,l,by rw[al];rfl,?_];have z48:aW "0" = #[[48].toArray]:=by decide +kernel
   show#[_,rfl,rfl,_,rfl,?_];rcases Jg n with z|z
   ·subst z;rw[mI (mP (by rw[z48];rfl))];show#[_,rfl,l,rfl,_,rfl,_,_,rfl,by rw[ln];lia,Dec.aoq tb_g%,q H1 sm]
   ·obtain⟨c,r,ec,hc⟩:=Dec.aqF z;have el:(Dec.tx (Dec.dg n)).cps.toList=c::r:=by rwa[Dec.o8]
    have ne:¬ V.str (Dec.tx (Dec.dg n))=V.str (aW "0"):=fun e=>by
     injection e with e;rw[e,z48]at el;have el:[48]=c::r:=el;injection el with e1 _;lia
    have ne2:¬ V.str #[[c].toArray]=V.str (aW "0"):=fun e=>by
     rw[z48]at e;injection e with e;have e:[c]=[48]:=mN (fun s:Str=>s.cps.toList) e;injection e with e1 _;lia
    rw[mB (by rw[xj ne];exact gM)];show#[_,rfl,_,_,c,rfl,rfl,sz,by rw[el];simp[atI,ixN],rfl,_,rfl,l,by rw[xj ne2];rfl,?_];show#[_,rfl,_,_,rfl,by rw[ln];lia,Dec.aoq tb_g%,q H1 sm]
  ·rintro σ H Q Q' m ⟨v,e,a,b,e1,e2,q⟩;show#[v,e,a,b,e1,e2,m _ _ q]
def wN(n:Nat):V:=.str (Dec.tx (Dec.dg n))
def avL:Sp:=fun vs H Q _=>Ex3 fun(a:Addr) (ns:List Nat) (l:Int)=>uV (vs=[.ref a,.int l]) (H a=some (.lst (ns.map wN))) ((∀n∈ns,n<10 ^ 60)) (ns.length<=900) (∀D H',H D=none->Same H H'->H' D=some (.lst (ns.map fun n:Nat=>V.int n))->Q (.ref D) H')
theorem gU(T:Tx K mg A):FnK P w base T.wX CX0 8 avL:=by
 k_dat (T.wX,T.wX.ok,Vq) "f"
 ·obtain⟨a,ns,l,rfl,ha,hb,hn,q⟩:=h;show#[_,by k_dat ([dO],[],[jo [("line",~~~s+1)] Q12 [1] ?_ (fun _ _ _ _=>iz) (fun _ _ _ _=>(aB (HB T) (bV (pv 0) (bV (pv 1) fO))))]) "p",?_];show#[_,rfl,a,rfl,#[_,.inl (.inl ha)],fun D hD=>?_];refine fZ (K:=K) (a:=a) (xs:=ns.map wN) (fun i ys G=>ys=(ns.take i).map (fun n:Nat=>V.int n)/\G D=some (.lst ys)/\Same H G) #[rfl,aj,Same.new hD] ?_ ?_ ?_ ?_
  ·rintro i ys G hi ⟨rfl,gD,sG⟩;show#[.inl (.inl (sG _ _ ha)),gD,aJ ?_];rw[aD,eX];lia
  ·rintro i ys G x hx ⟨rfl,gD,sG⟩;rw[cP,lB]at hx;obtain⟨n,hi,rfl⟩:=hx;show#[_,rfl,_,rfl,n,l,rfl,hb n (mv hi),fun G1 s1=>?_];show#[s1 _ _ gD,?_,aj,fun b o e=>?_]
   ·rw[jg,hi,aR];rfl
   ·rw[ao (ak e hD)];exact s1 _ _ (sG b o e)
  ·rintro ys G ⟨rfl,gD,sG⟩;rw[aD,jC]at gD;exact q D G hD sG gD
  ·rintro σ H R R' hr ⟨v,e,w,e2,n,l,en,hn,q⟩;show#[v,e,w,e2,n,l,en,hn,fun H1 s1=>hr _ _ (q H1 s1)]
def spSb:Sp:=fun vs H Q _=>Ex3 fun r c s=>qT (vs=[.int r,.int c,.int s]) (r % 2=0) (2<=r) (r<=64) (1<=c) (c<=1000000000) (1<=s) (s<=1000000000/\Q (.bl true) H)
theorem NZ(T:Tx K mg A):FnK P w base T.qK CX0 1 spSb:=by
 k_dat (T.qK,T.qK.ok,Np) "f"
 ·obtain⟨r,c,p,rfl,h1,h2,h3,h4,h5,h6,h7,q⟩:=h;obtain⟨_,abe,abf⟩:=T.aaV;obtain⟨_,abg,abh⟩:=T.aaX;obtain⟨_,adu,adw⟩:=T.ac8;obtain⟨_,adx,ady⟩:=T.ac9;show#[_,by k_dat ([abO],[],[gF (v:=.int 2) rfl abe abf,gF (v:=.int 64) rfl adu adw,gF (v:=.int 1000000000) rfl abg abh,gF (v:=.int 1000000000) rfl adx ady]) "p",?_]
  k_dat lq "c"
  show#[_,rfl,_,_,rfl,rfl,(show(0:Int)<2 by decide),rfl,_,rfl,yg (show V.int (r % 2)=V.int 0 by rw[h1]) ?_];show#[_,rfl,_,_,rfl,rfl,_,rfl,dh (fun e=>mM (mS e) tb_g%) fun _=>?_];show#[_,rfl,_,_,rfl,rfl,_,rfl,dh (fun e=>mM (mS e) tb_g%) fun _=>?_];show#[_,rfl,_,_,rfl,rfl,_,rfl,?_];rw[mI (mP h4)];show#[_,_,rfl,rfl,_,rfl,?_];rw[mI (mP h5)];show#[_,rfl,_,_,rfl,rfl,_,rfl,?_];rw[mI (mP h6)];show#[_,_,rfl,rfl,?_];show Q (.bl (decide (p<=1000000000))) H;rwa[mP h7]
def spBo:Sp:=fun vs H Q _=>Ex5 fun a r c p l=>qT (vs=[.ref a,.int l]) (H a=some (.lst [wN r,wN c,wN p])) (r % 2=0) (2<=r) (r<=64) (1<=c) (c<=1000000000) (mV (1<=p) (p<=1000000000) (∀D H',H D=none->Same H H'->H' D=some (.lst [.int r,.int c,.int p])->Q (.ref D) H'))
theorem abj(T:Tx K mg A):FnK P w base T.Ai CX0 9 spBo:=by
 k_dat (T.Ai,T.Ai.ok,Hj) "f"
 ·obtain⟨a,r,c,p,l,rfl,ha,h1,h2,h3,h4,h5,h6,h7,q⟩:=h;show#[_,by k_dat ([],[Hj.nd,aB (gU T) ?_,aB (NZ T) ?_,aB (mG T) ?_],[]) "p",?_]
  k_dat lq "c"
  show#[_,rfl,_,rfl,a,[r,c,p],l,rfl,ha,fun n m=>?_,(show 3<=900 by decide),fun D G hD sG gD=>?_]
  ·have m:n=r\/n=c\/n=p:=by simpa using m
   have:n<=1000000000:=by lia
   exact oM this tb_g%
  have gD:G D=some (.lst [.int r,.int c,.int p]):=gD;have sD:SqL K G D [.int r,.int c,.int p]:=.inl (.inl gD);show#[_,rfl,cM sD ?_];show#[rfl,_,rfl,?_];refine dh (fun _=>?_) fun e=>mM (mP rfl) e;show#[_,rfl,dF sD rfl ?_];show#[_,rfl,dF sD rfl ?_];show#[_,rfl,dF sD rfl ?_];show#[r,c,p,rfl,by lia,by lia,by lia,by lia,by lia,by lia,by lia,?_];show#[_,rfl,l,rfl,_,rfl,q D G hD sG gD]
def spWo:Sp:=fun vs H Q _=>Ex5 fun(a:Addr) (ls:List Str) (k:Nat) (ws:List Str) (nm:Str)=>Nr (vs=[.ref a,.int (k+1:Nat),.str nm]) (H a=some (.lst (ls.map V.str))) (ls[k]? = some (cZ (aW " ") (nm::ws))) (vH (cZ (aW " ") (nm::ws)) (aW " ")=nm::ws) ((cZ (aW " ") (nm::ws)).length<=1048576) (ls.length<=900) (∀D H',H D=none->Same H H'->H' D=some (.lst (ws.map V.str))->Q (.ref D) H')
theorem adz(T:Tx K mg A):FnK P w base T.Eu CX0 7 spWo:=by
 k_dat (T.Eu,T.Eu.ok,Lw) "f"
 ·obtain⟨a,ls,k,ws,nm,rfl,ha,hk,sp,le,few,q⟩:=h;have lt:=(dI.mp hk).1;have sa:SqL K H a (ls.map V.str):=.inl (.inl ha);show#[_,by k_dat ([],[Lw.nd,aB (mG T) ?_,yd Lb amg amh acD ?_ ?_],[]) "p",?_]
  k_dat lq "c"
  show#[_,rfl,_,rfl,cM sa ?_];have c1:decide (((k+1:Nat):Int)<=((ls.map V.str).length:Nat))=true:=mP (by rw[aD];lia);show#[_,_,rfl,rfl,_,rfl,(k+1:Nat),by show[V.bl (decide (((k+1:Nat):Int)<=((ls.map V.str).length:Nat))),V.int (k+1:Nat)]=_;rw[c1],?_];have c2:atI (ls.map V.str) (((k+1:Nat):Int)-1)=some (.str (cZ (aW " ") (nm::ws))):=by
   rw[show((k+1:Nat):Int)-1=(k:Nat) by lia];exact fu (by rw[cP,hk];rfl)
  refine⟨_,rfl,_,rfl,_,_,rfl,rfl,dF sa c2 ?_⟩;refine⟨rfl,_,_,rfl,rfl,by decide +kernel,le,fun D hD=>?_⟩;rw[sp];have sD:SqL K (upd H D (.lst ((nm::ws).map V.str))) D ((nm::ws).map V.str):=.inl (.inl aj);refine⟨_,rfl,dF sD (v:=.str nm) (fu (j:=0) rfl) ?_⟩;refine⟨_,rfl,rfl,_,rfl,(k+1:Nat),by rw[mP rfl];rfl,?_⟩;refine⟨_,rfl,1,rfl,D,_,rfl,sD,fun p hp=>?_⟩;refine q p _ (by cases e:H p with|none=>rfl|some o=>rw[Same.new hD p o e]at hp;cases hp) ((Same.new hD).trans (Same.new hp)) ?_;rw[aj,show BL ((nm::ws).map V.str) (some 1) none=ws.map V.str by simp[BL,HT.sIx];rw[<-aD (f:=V.str) (as:=ws),jC]]
theorem adA(h:(Dec.tx (Dec.dg n)).cps.toList=c::r):48<=c/\c<=57:=Dec.aap n c (by rw[<-Dec.o8,h];exact bY)
theorem wN_ne(hc:c<48):¬ Dec.tx (Dec.dg n)=#[[c].toArray]:=fun e=>by
 have:=(adA (n:=n) (c:=c) (r:=[]) (by rw[e])).1;lia
theorem adB{z:Str}(h:z.cps.toList=c::r):Zq z #[[d].toArray]=decide (c=d):=by
 have e:z=#[(c::r).toArray]:=by
  cases z with
  |mk cps=>show Str.mk cps=_;rw[<-h,Y7]
 rw[e];have:((c::r).toArray.extract 0 1 == [d].toArray)=decide (c=d):=by
  rw[show(c::r).toArray.extract 0 1=[c].toArray by apply Qj.mp;simp];by_cases g:c=d
  ·subst g;simp
  ·simp[g]
 exact(mN (fun b=>_ && b) this).trans (by simp[alh])
theorem z45:aW "-" = #[[45].toArray]:=by decide +kernel
theorem adC{α:Type}:∀l:List α,(gY l.length).filterMap (fun i=>l[i]?)=l
 |[]=>rfl
 |a::l=>by
  rw[cD,adV,xT];show a::_=_;rw[Ih];exact mN (a :: ·) (adC l)
theorem sl_ix(k:Nat):asN (some 1) none 1 (k+1)=(gY k).map (· + 1):=by
 show Pr (max 0 (min (if(1:Int)<0 then 1+((k+1:Nat):Int)else 1) ((k+1:Nat):Int))) ((k+1:Nat):Int) 1=_;rw[mB tb_g%,show max 0 (min 1 ((k+1:Nat):Int))=1 by lia];unfold Pr;dsimp only;have e:(if(1:Int)>0 then(if(1:Int)<((k+1:Nat):Int)then(((k+1:Nat):Int)-1+1-1) / 1 else 0)else(if(1:Int)>((k+1:Nat):Int)then(1-((k+1:Nat):Int)-1-1) / (-1)else 0)).toNat=k:=by
  rw[mI tb_g%];split
  ·lia
  ·lia
 rw[e];exact xU fun a _=>by lia
theorem ajR(cs:List Char):Zu (Dec.tx ('-'::cs)) (some 1) none=Dec.tx cs:=by
 unfold Zu;have l:(Dec.tx ('-'::cs)).length=cs.length+1:=Dec.tO _;rw[l,sl_ix,aD,Ij,mB (by simp)];unfold Dec.tx;have e:(fun x:Nat=>(('-'::cs).map jA).toArray[x]?) ∘ (· + 1)=fun x:Nat=>(cs.map jA)[x]?:=by
  funext x
  show(('-'::cs).map jA).toArray[x+1]? = _;rw[Xx,cR,Xu]
 have f:=adC (cs.map jA);rw[aD]at f;rw[Ih,e,f]
def spSg:Sp:=fun vs H Q _=>Ex2 fun n l=>mV (vs=[.str (sI n),.int l]) (n.natAbs<10 ^ 60) (∀H',Same H H'->Q (.int n) H')
theorem abk(T:Tx K mg A):FnK P w base T.Aj CX0 8 spSg:=by
 k_dat (T.Aj,T.Aj.ok,Hl) "f"
 ·obtain⟨n,l,rfl,hn,q⟩:=h;show#[_,by k_dat ([au2],[Hl.nd,yd Lb PySem.F.slot_str_startswith PySem.F.type_str_startswith U0 ?_ ?_,aB (HB T) ?_,aB (mG T) ?_],[]) "p",?_]
  k_dat lrr "c"
  by_cases z:n<0
  ·have e:sI n=Dec.tx ('-'::Dec.dg n.natAbs):=by
    unfold sI;rw[show n = -(n.natAbs:Int) by lia,Dec.GC tb_g%,Int.natAbs_neg,alx]
   have hl:=Dec.Ac 60 tb_g% hn;rw[e];have st:Zq (Dec.tx ('-'::Dec.dg n.natAbs)) (aW "-")=true:=by
    rw[z45,adB (c:=45) (r:=(Dec.dg n.natAbs).map jA) (by rw[Dec.o8];rfl)];rfl
   show#[_,rfl,rfl,_,_,rfl,rfl,true,by rw[st],?_];show#[_,rfl,1,rfl,_,rfl,?_,?_]
   ·rw[Dec.tO];exact cW (show(Dec.dg n.natAbs).length+1<=61 by lia) tb_g%
   rw[ajR];show#[_,rfl,n.natAbs,l,rfl,hn,fun H1 s1=>?_];have ne:¬ (n.natAbs:Int)=0:=by lia
   show#[_,rfl,rfl,_,rfl,l,by rw[xj (fun w=>ne (V.int.inj w))];rfl,?_];show#[_,rfl,_,rfl,?_];have e2:-(n.natAbs:Int)=n:=by lia
   show Q (.int (-(n.natAbs:Int))) H1;rw[e2];exact q H1 s1
  ·have e:sI n=Dec.tx (Dec.dg n.natAbs):=by
    unfold sI;rw[show n=(n.natAbs:Int) by lia,Dec.oZ,alx]
   rw[e];cases h:(Dec.tx (Dec.dg n.natAbs)).cps.toList with
   |nil=>rw[Dec.o8]at h;exact mM (XH.mp h) (Dec.ahU _)
   |cons c r =>
    have hc:=adA h;have st:Zq (Dec.tx (Dec.dg n.natAbs)) (aW "-")=false:=by rw[z45,adB h,xj tb_g%]
    show#[_,rfl,rfl,_,_,rfl,rfl,false,by rw[st],?_];show#[_,rfl,_,rfl,n.natAbs,l,rfl,hn,fun H1 s1=>?_];rw[show((n.natAbs:Nat):Int)=n by lia];exact q H1 s1
abbrev sl1:Str:=aW "/"
def prt(cur:List Str):List Str->List (List Str)
 |[]=>[cur]
 |w::ws=>if w=sl1 then cur::prt [] ws else prt (cur++[w]) ws
theorem adD(h:∀w∈hs,w≠sl1):∀cur ws,prt cur (hs++ws)=prt (cur++hs) ws:=by
 induction hs with
 |nil=>intro cur ws;rw[yU];rfl
 |cons w hs ih =>
  intro cur ws;show(if w=sl1 then _ else prt (cur++[w]) (hs++ws))=_;rw[mB (h w bY),ih (fun u m=>h u (cF _ m)),iB];rfl
theorem Ud:∀gs,(∀g∈gs,∀w∈g,w≠sl1)->∀cur,prt cur (gs.flatMap fun g=>sl1::g)=cur::gs
 |[],_,cur=>rfl
 |g::gs,h,cur=>by
  rw[yR,O6];show(if sl1=sl1 then cur::prt [] (g++_)else _)=_;rw[mI rfl,adD (h g bY),O8,Ud gs fun k m=>h k (cF _ m)]
def spPt:Sp:=fun vs H Q _=>Ex2 fun(a:Addr) (ws:List Str)=>uU (vs=[.ref a]) (H a=some (.lst (ws.map V.str))) (ws.length<=9000) (∀(G:Addr) (ds:List (Addr × List Str)) (H':Hp),Same H H'->H' G=some (.lst (ds.map fun d=>V.ref d.1))->(∀d∈ds,H' d.1=some (.lst (d.2.map V.str)))->ds.map (·.2)=prt [] ws->Q (.ref G) H')
structure Pt(H J:Hp)(G:Addr)(ws:List Str)(i:Nat)(gs:List (Addr × List Str))(d:Addr)(cur:List Str):Prop where
 s:Same H J
 g:J G=some (.lst ((gs++[(d,cur)]).map fun d=>V.ref d.1))
 e:∀g∈gs++[(d,cur)],J g.1=some (.lst (g.2.map V.str))/\g.1≠G
 n:∀g∈gs,g.1≠d
 f:H d=none
 p:gs.map (·.2)++prt cur (ws.drop i)=prt [] ws
 l:cur.length<=i/\gs.length<=i
theorem ajS(T:Tx K mg A):FnK P w base T.Tf CX0 1 spPt:=by
 k_dat (T.Tf,T.Tf.ok,Xg) "f"
 ·obtain⟨a,ws,rfl,ha,hn,q⟩:=h;show#[_,by k_dat ([dO],[Xg.nd],[]) "p",?_];show#[tb_g%,fun D hD=>#[tb_g%,fun G hG=>?_]];have s1:=Same.new (o:=.lst []) hD;have d1:(upd H D (.lst [])) D=some (.lst []):=aj;generalize upd H D (.lst [])=H1 at s1 d1 hG ⊢
  k_dat lrg "c"
  have nG:H G=none:=s1.free hG;have ne:D≠G:=ak d1 hG
  k_dat (nwA hG,H2,zH2,fH2) "n"
  have P0:Pt H H2 G ws 0 [] D []:=⟨s1.trans zH2,fH2,fun g m=>by rw[bO.mp m];exact⟨zH2 _ _ d1,ne⟩,(fun g m=>nomatch m),hD,by rw[Yb];rfl,aK _,aK _⟩;refine⟨_,rfl,a,rfl,⟨_,.inl (.inl (P0.s _ _ ha))⟩,jX (K:=K) (a:=a) (xs:=ws.map V.str) (fun i σ J=>Ex4 fun(y:Option V) (gs:List (Addr × List Str)) (d:Addr) (cur:List Str)=>σ=[some (.ref a),some (.ref G),y]/\Pt H J G ws i gs d cur) ⟨none,[],D,[],rfl,P0⟩ (fun i σ J _ h=>by obtain⟨_,_,_,_,_,P⟩:=h;exact .inl (.inl (P.s _ _ ha))) ?_ ?_⟩
  ·rintro i v σ J hi ⟨y,gs,d,cur,rfl,P⟩;rw[cP,lB]at hi;obtain⟨w,hi,rfl⟩:=hi;have li:i<ws.length:=(dI.mp hi).1;have dr:ws.drop i=w::ws.drop (i+1):=by
    rw[K8 li];congr 1;exact(dI.mp hi).2
   have pp:=P.p;rw[dr]at pp;have ml:(d,cur)∈gs++[(d,cur)]:=oG _ bY;have dJ:J d=some (.lst (cur.map V.str)):=(P.e _ ml).1;have dG:d≠G:=(P.e _ ml).2;show#[_,rfl,rfl,_,rfl,dh (fun e=>?_) (fun e=>?_)]
   ·have e:w=sl1:=by
     have e:=mS e;injection e
    have pp:gs.map (·.2)++(cur::prt [] (ws.drop (i+1)))=prt [] ws:=by rw[<-pp];show _=_++(if w=sl1 then _ else _);rw[mI e]
    show#[_,rfl,.inl #[rfl,_,.inl (.inl P.g)],tb_g%,fun D2 hD2=>?_];have s2:=Same.new (o:=.lst []) hD2;show#[G,_,_,rfl,rfl,s2 _ _ P.g,aa8 (by rw[aD,cu];show gs.length+1<=9000;have:=P.l;lia),?_];have nD2:D2≠G:=aL (ak P.g hD2);show#[_,gs++[(d,cur)],D2,[],rfl,fun b o e=>by rw[ao (ak e nG)];exact s2 _ _ (P.s b o e),by rw[aj,aR (l₁:=gs++[(d,cur)]) (l₂:=[(D2,[])])];rfl,fun g m=>?_,fun g m=>ak (P.e g m).1 hD2,P.s.free hD2,?_,cg _,by rw[cu];show gs.length+1<=i+1;have:=P.l;lia]
    ·walk_at "e"
     ·have:=P.e g m;show#[by rw[ao this.2];exact s2 _ _ this.1,this.2]
     ·rw[bO.mp m];show#[by rw[ao nD2];exact aj,nD2]
    ·rw[aR,iB];exact pp
   ·have e:¬ w=sl1:=fun z=>e (mP (mN V.str z));have pp:gs.map (·.2)++prt (cur++[w]) (ws.drop (i+1))=prt [] ws:=by rw[<-pp];show _=_++(if w=sl1 then _ else _);rw[mB e]
    have la:atI ((gs++[(d,cur)]).map fun d=>V.ref d.1) (-1)=some (.ref d):=by
     unfold atI ixN;rw[aD,cu,mB tb_g%,mI (by show -((gs.length+1:Nat):Int) <= -1;lia)];show((gs++[(d,cur)]).map fun d=>V.ref d.1)[((-1:Int)+((gs.length+1:Nat):Int)).toNat]? = _;rw[show((-1:Int)+((gs.length+1:Nat):Int)).toNat=gs.length by lia,cP,Ft (aK _),Jh];rfl
    show#[_,rfl,_,rfl,dF (.inl (.inl P.g)) (v:=.ref d) la #[.inl #[rfl,_,.inl (.inl dJ)],_,rfl,d,_,_,rfl,rfl,dJ,aa8 (by rw[aD];have:=P.l;lia),?_]];show#[_,gs,d,cur++[w],rfl,fun b o e=>by rw[ao (ak e P.f)];exact P.s b o e,?_,fun g m=>?_,P.n,P.f,pp,by rw[cu];show cur.length+1<=i+1;have:=P.l;lia,by have:=P.l;lia]
    ·rw[ao (aL dG)];have:=P.g;rw[aR]at this ⊢;exact this
    ·walk_at "e"
     ·have:=P.e g (yP _ m);show#[by rw[ao (P.n g m)];exact this.1,this.2]
     ·rw[bO.mp m];show#[by rw[aj,aR];rfl,dG]
  ·rintro σ J ⟨y,gs,d,cur,rfl,P⟩;have pp:=P.p;rw[aD,O7]at pp;show#[_,rfl,q G (gs++[(d,cur)]) J P.s P.g (fun g m=>(P.e g m).1) ?_];rw[aR];exact pp
theorem cut1(xs:List V):BL xs (some 1) none=xs.drop 1:=by
 cases xs with
 |nil=>rfl
 |cons x xs =>
  simp[BL,HT.sIx]
def spRi:Sp:=fun vs H Q _=>Ex2 fun(a:Addr) (xs:List Int)=>KC (vs=[.ref a]) (H a=some (.lst (xs.map V.int))) (xs.Pairwise (· < ·)) ((∀x∈xs,x<1152921504606846976)) (xs.length<=900) (∀H',Same H H'->Q (.bl true) H')
theorem u9(T:Tx K mg A):FnK P w base T.oh CX0 1 spRi:=by
 k_dat (T.oh,T.oh.ok,uP) "f"
 ·obtain⟨a,xs,rfl,ha,up,mo,ln,q⟩:=h;obtain⟨_,TX,TY⟩:=T.agV;show#[_,by k_dat ([],[uP.nd,aoe rfl T.ah9 ?_,dj (Br rfl) (by rfl) T.ah7 Za ?_,uJ false T.ac7 ?_ ?_ rfl],[Wu (g:=(amU K 2 (FW (mQ 0) (FW (mQ 1) amT)))) 2 [] Q1 [] (fun _ _ _ _=>afF rfl (zT (v8 (i:=0) (show(Q1:List Str).Nodup by decide +kernel) rfl (Or.inl rfl)) (zT (v8 (i:=1) (show(Q1:List Str).Nodup by decide +kernel) rfl (Or.inl rfl)) ZR))) ?_ (fun _ _ _ _=>iz) (fun _ _ _ _=>(Oj arH (pv 0) (pv 1) (Ea _))),gF (v:=.int 1152921504606846976) rfl TX TY]) "p",?_];show#[_,rfl,_,rfl,1,rfl,a,_,rfl,.inl (.inl ha),fun p hp=>?_];rw[cut1,<-O9]
  k_dat (nwA hp,H1,s1,e1) "n"
  show#[a,p,_,_,rfl,s1 _ _ ha,e1,fun D hD=>?_];refine WQ (xs:=xs.map V.int) (ys:=(xs.drop 1).map V.int) (fun i zs H2=>i<=xs.length/\zs=jd i (V.bl true)/\H2 D=some (.lst zs)/\Same H1 H2) #[cg _,rfl,aj,Same.new hD] ?_ ?_ ?_ (Rm 0 1) (mD (bW 0) (bW 1))
  ·rintro i zs H2 ⟨il,rfl,f,s2⟩;show#[s2 _ _ (s1 _ _ ha),s2 _ _ e1,f,aJ (by rw[BZ];lia)]
  ·rintro i zs H2 u v t ws hu hv ⟨il,rfl,f,s2⟩ ht hw
   k_dat (x,hx,int_at,hu) "z"
   k_dat (y,hy,int_at,hv) "z"
   rw[List.getElem?_drop]at hy;have lt:x<y:=by
    obtain⟨l1,g1⟩:=dI.mp hx;obtain⟨l2,g2⟩:=dI.mp hy;have:=O1.mp up i (1+i) l1 l2 tb_g%
    rwa [g1,g2]at this
   obtain⟨w0,w1,rfl⟩:∃w0 w1,ws=[w0,w1]:=#[_,_,aj5 ws hw];have s3:Same H2 (upd H2 t (.tup [.int x,.int y])):=Same.new ht;have lx:=(dI.mp hx).1;show#[t,_,rfl,.inl (.inl aj),rfl,_,_,rfl,_,_,rfl,rfl,#[[some (.int x),some (.int y)],rfl,rfl],_,rfl,_,rfl,_,_,rfl,rfl,s3 _ _ f,lx,?_,aj,fun b o e=>by rw[ao (ak e hD)];exact s3 _ _ (s2 _ _ e)];show jd i (V.bl true)++[V.bl (decide (x<y))]=_;rw[mP lt,O3]
  ·rintro zs H2 ⟨_,rfl,f,s2⟩;have al:∀k,(jd k true).all id=true:=fun k=>by simp
   show#[D,jd _ true,rfl,.inl (.inl (by rwa[XR])),?_];rw[al];show#[_,rfl,_,rfl,Uy ?_];show#[_,rfl,a,xs,rfl,.inl (.inl (s2 _ _ (s1 _ _ ha))),fun v hv=>?_];obtain⟨m,rfl,hm⟩:∃m:Int,v=.int m/\m<1152921504606846976:=by
    rcases hv with⟨_,e⟩|⟨m,e,mm,_⟩
    ·show#[0,e,tb_g%]
    ·show#[m,e,mo m mm]
   show#[_,_,rfl,rfl,?_];show Q (.bl (decide (m<1152921504606846976))) H2;rw[mP hm];exact q _ (s1.trans s2)
def spSF(A:Ad):Sp:=fun vs H Q _=>Ex4 fun(f:Fq) (a:Addr) (room:Nat) (ks:List Int)=>qT (vs=[.ref f.p,.ref a]) (mY A H room f) (H a=some (.lst (ks.map V.int))) (ks.Pairwise (· < ·)) ((∀k∈ks,k<1152921504606846976/\k∈keys f.c/\1<=low f.c k)) (ks.length<=room) (room<=64) ((ks.map (low f.c)).sum+((room:Int)+1)*f.l<=f.t/\∀H',Same H H'->Q (.bl true) H')
theorem apt(h:k∈keys c):BP (emb c) (Sum.inl k:Key)=some (.int (low c k)):=by
 rw[Q7];obtain⟨v,e⟩:=aeT.mp ((Mi c k).mpr h);unfold low;rw[e];rfl
theorem HD(T:Tx K mg A):FnK P w base T.lR CX0 2 (spSF A):=by
 k_dat (T.lR,T.lR.ok,kO) "f"
 ·obtain⟨f,a,room,ks,rfl,hf,ha,up,hk,lr,r64,hs,q⟩:=h;have o:=hf.o;show#[_,by k_dat ([dO],[kO.nd,aB (u9 T) ?_,uJ true T.aoP ?_ ?_ rfl,dj (JT rfl) (by rfl) T.aoQ ae0 ?_],[jE 2 kO.nd [("frequent",~~~s+1)] ["thing","frequent"] [0] (te:=(tOp (QW K) (abP K _ "counts") _)) ?_ (fun _ _ _ _=>iz) (fun _ _ _ _=>(QS (ixG tb_g%) (pf 1) (pv 0) (fun _ _=>rfl)))]) "p",?_]
  k_dat lq "c"
  show#[_,rfl,a,rfl,#[_,.inl (.inl ha)],fun D hD=>?_];refine fZ (K:=K) (a:=a) (xs:=ks.map V.int) (fun i ys G=>ys=((ks.take i).map (low f.c)).map V.int/\G D=some (.lst ys)/\Same H G) #[rfl,aj,Same.new hD] ?_ ?_ ?_ (Bq (uL (bW 1)) (bW 0))
  ·rintro i ys G hi ⟨rfl,gD,sG⟩;show#[.inl (.inl (sG _ _ ha)),gD,aJ (by rw[aD,aD,eX];lia)]
  ·rintro i ys G x hx ⟨rfl,gD,sG⟩
   k_dat (k,hi,int_at,hx) "z"
   show#[_,rfl,rdG (sG _ _ o) (jH T) #[_,rfl,anC (.inl (sG _ _ hf.d)) (apt (hk k (mv hi)).2.1) #[gD,?_,aj,fun b o e=>by rw[ao (ak e hD)];exact sG b o e]]];rw[jg,hi,aR,aR];rfl
  ·rintro ys G ⟨rfl,gD,sG⟩;rw[aD,jC]at gD
   k_dat lqg "c"
   show#[_,rfl,a,ks,rfl,sG _ _ ha,up,fun k m=>(hk k m).1,by lia,fun G2 s2=>#[_,rfl,JH ?_]];have s02:=sG.trans s2;have o2:=s02 _ _ o;have D2:=s2 _ _ gD;show#[_,rfl,cM (.inl (.inl (s02 _ _ ha))) #[_,rfl,rdG o2 (xP T) #[_,_,rfl,rfl,_,rfl,dh (fun e=>mM (mS e) (by rw[aD];lia)) fun _=>?_]]];show#[_,rfl,D,ks.map (low f.c),rfl,.inl (.inl D2),fun v hv=>?_];obtain⟨m,rfl,hm⟩:∃m:Int,v=.int m/\1<=m:=by
    rcases hv with⟨_,e⟩|⟨m,e,mm,_⟩
    ·show#[1,e,tb_g%]
    ·k_dat (k,mk,dH.mp,mm) "z"
     show#[_,e,(hk k mk).2.2]
   show#[_,_,rfl,rfl,_,rfl,dh (fun _=>?_) fun e=>mM (mP hm) e];show#[_,rfl,D,ks.map (low f.c),rfl,.inl (.inl D2),?_];show#[_,rfl,rdG o2 (xP T) #[_,_,rfl,rfl,_,rfl,rdG o2 (Bt T) #[_,_,rfl,rfl,af3 tb_g% tb_g%,_,_,rfl,rfl,_,rfl,rdG o2 (uY T) #[_,_,rfl,rfl,?_]]]];show Q (.bl (decide ((ks.map (low f.c)).sum+((room:Int)+1)*f.l<=f.t))) G2;rw[mP hs];exact q G2 s02
def spSt(A:Ad):Sp:=fun vs H Q _=>Ex2 fun p x=>uV (vs=[.ref p]) (RnX A H p x) ((RG.val x.ls:Int)=x.tt) (x.ls.length<=900) (Q (.bl true) H)
theorem adE:∀ls i,RG.val (ls.drop i)<=RG.val ls
 |_,0=>aK _
 |[],_+1=>aK _
 |l::ls,i+1=>by
  have:=adE ls i;show RG.val (ls.drop i)<=l.length+2*RG.val ls;lia
theorem Fo(T:Tx K mg A):FnK P w base T.kj CX0 1 (spSt A):=by
 k_dat (T.kj,T.kj.ok,qR) "f"
 ·obtain⟨p,x,rfl,hx,vl,ln,q⟩:=h;have o:=hx.o;have n:=hx.l.n;show#[_,by k_dat ([],[qR.nd,ags rfl T.qN ?_],[]) "p",?_]
  k_dat lq "c"
  show#[_,rfl,rdG o (gb T) #[x.a,_,rfl,.inl (.inl hx.l.o),aaj (K:=K) (a:=x.a) (xs:=x.bs.map V.ref) (fun i σ G=>∃(y:Option V),mV (σ=[some (.ref p),some (.int (RG.val (x.ls.drop (x.ls.length-i)):Nat)),y]) (i<=x.ls.length) (G=H)) #[none,by rw[alr,O7];rfl,cg _,rfl] (fun i σ G _ h=>by obtain⟨_,_,_,e⟩:=h;rw[e];exact .inl (.inl hx.l.o)) ?_ ?_]]
  ·rintro i v σ G hi ⟨y,rfl,il,rfl⟩;have li:i<x.ls.length:=by
    have:=(dI.mp hi).1;rwa[oH,aD,n]at this
   rw[Xy (by rwa[aD,n]),aD,n,cP,lB]at hi;obtain⟨b,hb,rfl⟩:=hi;have lj:x.ls.length-1-i<x.ls.length:=by lia
   have hl:=eE lj;have hB:=hx.l.e _ b _ hb hl;have e:RG.val (x.ls.drop (x.ls.length-(i+1)))=(x.ls[x.ls.length-1-i]).length+2*RG.val (x.ls.drop (x.ls.length-i)):=by
    rw[show x.ls.length-(i+1)=x.ls.length-1-i by lia,K8 lj,show x.ls.length-1-i+1=x.ls.length-i by lia];rfl
   have le:=adE x.ls (x.ls.length-(i+1));show#[_,rfl,_,_,rfl,rfl,dR tb_g% tb_g%,_,rfl,cM (.inl (.inl hB)) #[_,_,rfl,rfl,?_]];have ew:(RG.val (x.ls.drop (x.ls.length-i)):Int)*2+(((x.ls[x.ls.length-1-i]).map V.int).length:Int)=(RG.val (x.ls.drop (x.ls.length-(i+1))):Nat):=by
    rw[aD];lia
   try dsimp -proj only
   rw[ew];show#[_,rfl,_,rfl,rdG o (fH T) #[_,_,rfl,rfl,_,rfl,dh (fun z=>mM (mS z) tb_g%) fun _=>#[_,rfl,li,rfl]]]
  ·rintro σ G ⟨y,rfl,_,rfl⟩;rw[aD,n,Jh,Yb];show#[_,rfl,_,rfl,rdG o (fH T) #[rfl,?_]];rwa[vl,mP rfl]
def spSL(A:Ad):Sp:=fun vs H Q _=>Ex6 fun(a p:Addr) (x:Rs) (l:List Int) (lo hi:Int)=>qT (vs=[.ref a,.ref p]) (RnX A H p x) (H a=some (.lst (l.map V.int))) ((l.length:Int)<=x.r) (l.length<64) (l.Pairwise (· <= ·)) (x.mi=some lo) (mV (x.ma=some hi) ((∀z∈l,lo<=z/\z<=hi)) (∀H',Same H H'->Q (.bl true) H'))
theorem VD(T:Tx K mg A):FnK P w base T.wY CX0 1 (spSL A):=by
 k_dat (T.wY,T.wY.ok,Vr) "f"
 ·obtain⟨a,p,x,l,lo,hi,rfl,hx,ha,lr,l64,sd,e1,e2,bd,q⟩:=h;have o:=hx.o;rw[e1,e2]at o;show#[_,by k_dat ([auX],[dj (iV rfl) (by rfl) T.kE La ?_,uJ true T.aoP ?_ ?_ rfl,uJ false T.ac7 ?_ ?_ rfl],[]) "p",?_];show#[_,rfl,cM (.inl (.inl ha)) #[_,rfl,rdG o (xq T) #[_,_,rfl,rfl,_,rfl,dh (fun z=>mM (mS z) (by rw[aD];lia)) fun _=>?_]]];show#[_,rfl,_,rfl,.inr #[a,l,rfl,.inl (.inl ha),l64,fun D l' hD pm sd'=>?_]];obtain rfl:=RG.jF pm sd' sd;have s1:=Same.new (o:=.lst (l'.map V.int)) hD;show#[1,a,D,rfl,rfl,tb_g%,.lst (.inl (.inl (s1 _ _ ha))) (.inl (.inl aj)) rfl (fun i x y h1 h2=>?_),_,rfl,JH ?_]
  ·obtain⟨z,_,rfl⟩:=int_at h1;obtain rfl:=bC (h1.symm.trans h2);exact .flat rfl
  have o1:=s1 _ _ o;have a1:=s1 _ _ ha;generalize upd H D (.lst (l'.map V.int))=H1 at s1 o1 a1 ⊢;show#[_,rfl,_,rfl,rdG o1 (mW T) #[a,l',rfl,.inl (.inl a1),fun v hv=>?_]];obtain⟨m,rfl,hm⟩:∃m:Int,v=.int m/\lo<=m:=by
   rcases hv with⟨_,e⟩|⟨m,e,mm,_⟩
   ·show#[lo,e,cC _]
   ·show#[m,e,(bd m mm).1]
  show#[_,rfl,rdG o1 (mW T) #[_,_,rfl,rfl,_,rfl,dh (fun _=>?_) fun e=>mM (mP hm) e]];show#[_,rfl,_,rfl,rdG o1 (o9 T) #[a,l',rfl,.inl (.inl a1),fun v hv=>?_]];obtain⟨m,rfl,hm⟩:∃m:Int,v=.int m/\m<=hi:=by
   rcases hv with⟨_,e⟩|⟨m,e,mm,_⟩
   ·show#[hi,e,cC _]
   ·show#[m,e,(bd m mm).2]
  show#[_,rfl,rdG o1 (o9 T) #[_,_,rfl,rfl,?_]];show Q (.bl (decide (m<=hi))) H1;rw[mP hm];exact q _ s1
structure Sr(x:Rs):Prop where
 z:x.tt=0->x.ls=[]/\x.ov=0/\x.un=0/\x.tn=0
 n:x.tt≠0->x.ls≠[]/\RG.Full x.ls/\∃lo hi,x.mi=some lo/\x.ma=some hi/\lo<=hi/\hi<1152921504606846976/\∀l∈x.ls,∀z∈l,lo<=z/\z<=hi
 v:(RG.val x.ls:Int)=x.tt
 l:x.ls.length<=900
 d:∀l∈x.ls,(l.length:Int)<=x.r/\l.length<64/\l.Pairwise (· <= ·)
 b:(x.ov+x.un)*x.r<=x.tt*((x.ls.length:Int)-1)\/x.tt=0
 r:0<=x.r/\x.r<=64
def spSRu(A:Ad):Sp:=fun vs H Q _=>Ex2 fun p x=>uU (vs=[.ref p]) (RnX A H p x) (Sr x) (∀H',Same H H'->Q (.bl true) H')
theorem Ue(T:Tx K mg A):FnK P w base T.tY CX0 2 (spSRu A):=by
 k_dat (T.tY,T.tY.ok,TJ) "f"
 ·obtain⟨p,x,rfl,hx,S,q⟩:=h;have o:=hx.o;have n:=hx.l.n;obtain⟨_,TX,TY⟩:=T.agV;show#[_,by (k_dat ([hdE,dO],[aB (Fo T) ?_,dj (Br rfl) (by rfl) T.ah7 Za ?_],[gF (v:=.int 1152921504606846976) rfl TX TY,jo [("rungs",~~~s+1)] Q18 [0] ?_ (fun _ _ _ _=>iz) (fun _ _ _ _=>(aB (VD T) (bV (pv 0) (bV (pv 1) fO))))]) "p"; k_dat V8 "h"; k_dat (aoi hr.units) "h"; k_dat V8 "h"; k_dat V8 "h"; k_dat V8 "h"; k_dat (aoi hr.units) "h"; k_dat (acz hr.units) "h"),?_]
  k_dat lq "c"
  show#[_,rfl,rdG o (fH T) #[rfl,_,rfl,dh (fun h=>?_) (fun h=>?_)]]
  ·have h:x.tt=0:=V.int.inj (mS h);obtain⟨z1,z2,z3,z4⟩:=S.z h;rw[z1]at n;have l:=hx.l.o;rw[BX.mp n]at l;rw[z2,z3,z4]at o;refine⟨_,rfl,rdG o (gb T) ⟨tb_g%,fun D hD=>?_⟩⟩;have s1:=Same.new (o:=.lst []) hD;refine .inl ⟨1,x.a,D,rfl,rfl,tb_g%,.lst (xs:=[]) (ys:=[]) (.inl (.inl (s1 _ _ l))) (.inl (.inl aj)) rfl (fun i x y h=>nomatch h),_,rfl,Uy ?_⟩;have o1:=s1 _ _ o;refine⟨_,rfl,rdG o1 (xr T) ⟨rfl,_,rfl,Uy ?_⟩⟩;refine⟨_,rfl,rdG o1 (qU T) ⟨rfl,_,rfl,Uy ?_⟩⟩;exact⟨_,rfl,rdG o1 (jq T) ⟨rfl,q _ s1⟩⟩
  have h:x.tt≠0:=fun z=>h (mP (mN V.int z));obtain⟨ne,fl,lo,hi,e1,e2,lh,hm,bd⟩:=S.n h;rw[e1,e2]at o;have pos:0<x.ls.length:=XM.mpr ne;show#[_,rfl,rdG o (gb T) #[tb_g%,fun D hD=>?_]];have s1:=Same.new (o:=.lst []) hD;have l1:=s1 _ _ hx.l.o;have o1:=s1 _ _ o;refine .inr #[x.a,D,_,_,rfl,rfl,.inl (.inl l1),.inl (.inl aj),by rw[aD,n];show x.ls.length≠0;lia,_,rfl,JH ?_];generalize upd H D (.lst [])=H1 at s1 l1 o1 ⊢;obtain⟨b,hb⟩:∃b,x.bs[x.ls.length-1]? = some b:=#[_,eE tb_g%];have hl:=eE (show x.ls.length-1<x.ls.length by lia);have hB:=s1 _ _ (hx.l.e _ b _ hb hl);have avM:x.ls[x.ls.length-1]≠[]:=fl _ (by rw[List.getLast?_eq_getElem?,hl]);have la:atI (x.bs.map V.ref) (-1)=some (.ref b):=by
   unfold atI ixN;rw[aD,n,mB tb_g%,mI tb_g%];show(x.bs.map V.ref)[((-1:Int)+(x.ls.length:Int)).toNat]? = _;rw[show((-1:Int)+(x.ls.length:Int)).toNat=x.ls.length-1 by lia,cP,hb];rfl
  show#[_,rfl,rdG o1 (gb T) #[_,rfl,dF (.inl (.inl l1)) la #[tb_g%,fun D2 hD2=>?_]]];have s2:=Same.new (o:=.lst []) hD2;show#[b,D2,_,_,rfl,rfl,.inl (.inl (s2 _ _ hB)),.inl (.inl aj),by rw[aD];show _≠0;have:=XM.mpr avM;lia,_,rfl,JH ?_];have o2:=s2 _ _ o1;replace s1:=s1.trans s2;generalize upd H1 D2 (.lst [])=H2 at s1 o2 ⊢;clear hB l1 s2 o1;have X2:=hx.same s1;show#[_,rfl,rdG o2 (mW T) #[_,rfl,rdG o2 (o9 T) #[_,_,rfl,rfl,_,rfl,dh (fun z=>mM (mS z) (by show ¬ lo>hi;lia)) fun _=>?_]]];show#[_,rfl,rdG o2 (o9 T) #[_,_,rfl,rfl,_,rfl,dh (fun z=>mM (mS z) (by show ¬ hi>=1152921504606846976;lia)) fun _=>?_]];show#[_,rfl,p,x,rfl,X2,S.v,S.l,_,rfl,JH ?_];show#[_,rfl,rdG o2 (gb T) #[x.a,rfl,#[_,.inl (.inl X2.l.o)],fun C hC=>?_]];refine fZ (K:=K) (a:=x.a) (xs:=x.bs.map V.ref) (fun i ys G=>i<=x.ls.length/\ys=jd i (V.bl true)/\G C=some (.lst ys)/\Same H2 G) #[cg _,rfl,aj,Same.new hC] ?_ ?_ ?_ ?_
  ·rintro i ys G hi ⟨il,rfl,gC,sG⟩;show#[.inl (.inl (sG _ _ X2.l.o)),gC,aJ (by rw[BZ];have:=S.l;lia)]
  ·rintro i ys G v hv ⟨il,rfl,gC,sG⟩;rw[cP,lB]at hv;obtain⟨b,hb,rfl⟩:=hv;have li:i<x.ls.length:=by rw[<-n];exact(dI.mp hb).1
   have hl:=eE li;have mm:=mv hl;have dd:=S.d _ mm;have X3:=X2.same sG;show#[_,rfl,_,rfl,b,p,x,x.ls[i],lo,hi,rfl,X3,X3.l.e i b _ hb hl,dd.1,dd.2.1,dd.2.2,e1,e2,bd _ mm,fun G1 sG1=>#[sG1 _ _ gC,li,by rw[<-O3],aj,fun b o e=>by rw[ao (ak e hC)];exact sG1 _ _ (sG b o e)]]
  ·rintro ys G ⟨_,rfl,gC,sG⟩;have al:∀k,(jd k true).all id=true:=fun k=>by simp
   show#[C,jd _ true,rfl,.inl (.inl (by rwa[XR])),?_];rw[al];have o3:=sG _ _ o2;have X3:=X2.same sG;have r0:=S.r;have l9:=S.l;show#[_,rfl,JH ?_];show#[_,rfl,rdG o3 (xr T) #[_,rfl,rdG o3 (qU T) #[_,_,rfl,rfl,_,rfl,rdG o3 (xq T) #[_,_,rfl,rfl,dR tb_g% tb_g%,_,rfl,rdG o3 (fH T) #[_,rfl,rdG o3 (gb T) (cM (.inl (.inl X3.l.o)) #[_,_,rfl,rfl,_,_,rfl,rfl,dR tb_g% (by rw[aD];lia),_,_,rfl,rfl,?_])]]]]];have bb:(x.ov+x.un)*x.r<=x.tt*(((x.bs.map V.ref).length:Int)-1):=by rw[aD,n];exact S.b.resolve_right h
   show Q (.bl (decide ((x.ov+x.un)*x.r<=x.tt*(((x.bs.map V.ref).length:Int)-1)))) G;rw[mP bb];exact q G (s1.trans sG)
  ·rintro σ H R R' hq ⟨v,e,w,e2,a,p,x,l,lo,hi,en,h1,h2,h3,h4,h5,h6,h7,h8,q⟩;show#[v,e,w,e2,a,p,x,l,lo,hi,en,h1,h2,h3,h4,h5,h6,h7,h8,fun H' s=>hq _ _ (q H' s)]
def Pl(c k:Int):Int->List WN.Box->Prop
 |_,[]=>True
 |a,b::r=>a<b.f/\b.f<=b.l/\1<=b.s/\b.l<=c/\c-k<b.l/\Pl c k b.l r
def Su(r:Int):Int->Int->List WN.Box->Prop
 |_,_,[]=>True
 |nw,nb,b::q=>(b.f=b.l\/b.s*r<=nw)/\nw-nb<(b.s+nb)*r/\Su r (nw+b.s) b.s q
theorem asb{ps:List Bp}{i:Nat}{v:V}(h:(ps.map fun p=>V.ref p.1)[i]? = some v):∃p,ps[i]? = some p/\v=.ref p.1:=by
 rw[cP,lB]at h;obtain⟨p,hp,rfl⟩:=h;show#[p,hp,rfl]
theorem air(h:ps[i]? = some p):(bx ps).drop i=p.2::(bx ps).drop (i+1):=by
 have l:=(dI.mp h).1;have e:(bx ps)[i]? = some p.2:=by unfold bx;rw[cP,h];rfl
 rw[K8 (by rwa[gk])];congr 1;exact(dI.mp e).2
def spPla(A:Ad):Sp:=fun vs H Q _=>Ex7 fun p dx l r k c ps=>uU (vs=[.ref p]) (Wn A H p dx l r k c ps) (Pl c k 0 (bx ps)) (Q (.bl true) H)
theorem N5(T:Tx K mg A):FnK P w base T.qL CX0 1 (spPla A):=by
 k_dat (T.qL,T.qL.ok,yD) "f"
 ·obtain⟨p,dx,l,r,k,c,ps,rfl,hw,pl,q⟩:=h;have o:=hw.o;show#[_,by k_dat ([dO],[yD.nd],[]) "p",?_]
  k_dat lq "c"
  show#[_,rfl,rdG o (mX T) #[l,rfl,#[_,.inl (.inl hw.b.l)],jX (K:=K) (a:=l) (xs:=ps.map fun p=>V.ref p.1) (fun i σ G=>Ex4 fun(a:Int) (y2 y3 y4:Option V)=>mV (σ=[some (.ref p),some (.int a),y2,y3,y4]) (Pl c k a ((bx ps).drop i)) (G=H)) #[0,none,none,none,rfl,pl,rfl] (fun i σ G _ h=>by obtain⟨_,_,_,_,_,_,e⟩:=h;rw[e];exact .inl (.inl hw.b.l)) ?_ ?_]]
  ·rintro i v σ G hi ⟨a,y2,y3,y4,rfl,pa,rfl⟩
   k_dat (b,hb,asb,hi) "z"
   rw[air hb]at pa;obtain⟨p1,p2,p3,p4,p5,p6⟩:=pa;have ht:=hw.b.t b (mv hb);unfold bt at ht;show#[b.1,_,rfl,.inl (.inl ht),rfl,_,_,rfl,_,_,rfl,_,_,rfl,rfl,?_]
   k_dat lq "c"
   show#[_,rfl,_,rfl,_,_,rfl,rfl,_,rfl,dh (fun z=>mM (mS z) tb_g%) fun _=>?_];show#[_,rfl,_,rfl,_,_,rfl,rfl,_,rfl,dh (fun z=>mM (mS z) tb_g%) fun _=>?_];show#[_,rfl,_,_,rfl,rfl,_,rfl,dh (fun z=>mM (mS z) tb_g%) fun _=>?_];show#[_,rfl,_,rfl,rdG o (gj T) #[_,_,rfl,rfl,_,rfl,dh (fun z=>mM (mS z) tb_g%) fun _=>?_]];show#[_,rfl,_,rfl,rdG o (gj T) #[_,rfl,rdG o (uW T) #[_,_,rfl,rfl,_,_,rfl,rfl,_,rfl,dh (fun z=>mM (mS z) tb_g%) fun _=>?_]]];show#[_,rfl,_,_,_,_,rfl,p6,rfl]
  ·rintro σ G ⟨a,y2,y3,y4,rfl,_,rfl⟩;exact q
def spSum(A:Ad):Sp:=fun vs H Q _=>Ex7 fun p dx l r k c ps=>KC (vs=[.ref p]) (Wn A H p dx l r k c ps) (Su r 0 0 (bx ps).reverse) (0<=r) (r<=64) (Q (.bl true) H)
theorem VF(T:Tx K mg A):FnK P w base T.wZ CX0 1 (spSum A):=by
 k_dat (T.wZ,T.wZ.ok,Cu) "f"
 ·obtain⟨p,dx,l,r,k,c,ps,rfl,hw,su,r0,r64,q⟩:=h;have o:=hw.o;show#[_,by k_dat ([],[Cu.nd,ags rfl T.qN ?_],[]) "p",?_]
  k_dat lq "c"
  show#[_,rfl,rdG o (mX T) #[l,_,rfl,.inl (.inl hw.b.l),aaj (K:=K) (a:=l) (xs:=ps.map fun b:Bp=>V.ref b.1) (fun i σ G=>Ex5 fun(nw nb:Int) (y3 y4 y5:Option V)=>mV (σ=[some (.ref p),some (.int nw),some (.int nb),y3,y4,y5]) (Su r nw nb ((bx ps).reverse.drop i)) (G=H)) #[0,0,none,none,none,rfl,su,rfl] (fun i σ G _ h=>by obtain⟨_,_,_,_,_,_,_,e⟩:=h;rw[e];exact .inl (.inl hw.b.l)) ?_ ?_]]
  ·rintro i v σ G hi ⟨nw,nb,y3,y4,y5,rfl,sa,rfl⟩;rw[<-um]at hi
   k_dat (b,hb,asb,hi) "z"
   have e:=air hb;rw[show bx ps.reverse=(bx ps).reverse from um]at e;rw[e]at sa;obtain⟨p1,p2,p3⟩:=sa;have ht:=hw.b.t b (uo.mp (mv hb));unfold bt at ht;show#[b.1,_,rfl,.inl (.inl ht),rfl,_,_,rfl,_,_,rfl,_,_,rfl,rfl,?_]
   k_dat lq "c"
   refine sq fun R hR=>?_;have K1:R [some (.ref p),some (.int nw),some (.int nb),some (.int b.2.f),some (.int b.2.l),some (.int b.2.s)] G:=hR _ _ (by
    show#[_,rfl,_,rfl,_,_,rfl,rfl,_,rfl,rdG o (xK T) #[_,_,rfl,rfl,dR tb_g% tb_g%,_,rfl,_,rfl,_,_,rfl,rfl,_,_,rfl,rfl,_,rfl,dh (fun z=>mM (mS z) (by show ¬ (b.2.s+nb)*r<=nw-nb;lia)) fun _=>?_]];show#[_,rfl,_,rfl,_,_,rfl,rfl,_,rfl,_,_,_,_,_,rfl,p3,rfl])
   show#[_,rfl,_,rfl,rfl,_,rfl,dh (fun z=>?_) fun _=>K1];have ne:b.2.f≠b.2.l:=fun e=>by rw[e,mP rfl]at z;cases z
   show#[_,rfl,_,rfl,rdG o (xK T) #[_,_,rfl,rfl,dR tb_g% tb_g%,_,rfl,_,_,rfl,rfl,_,rfl,dh (fun z=>mM (mS z) (by show ¬ b.2.s*r>nw;have:=p1.resolve_left ne;lia)) fun _=>K1]]
  ·rintro σ G ⟨nw,nb,y3,y4,y5,rfl,_,rfl⟩;exact q
def spSW(A:Ad):Sp:=fun vs H Q _=>Ex7 fun p dx l r k c ps=>Nr (vs=[.ref p]) (Wn A H p dx l r k c ps) (Pl c k 0 (bx ps)) (Su r 0 0 (bx ps).reverse) (0<=r) (r<=64) (Q (.bl true) H)
theorem N6(T:Tx K mg A):FnK P w base T.qM CX0 2 (spSW A):=by
 k_dat (T.qM,T.qM.ok,Nq) "f"
 ·obtain⟨p,dx,l,r,k,c,ps,rfl,hw,pl,su,r0,r64,q⟩:=h;show#[_,by k_dat ([],[aB (N5 T) ?_,aB (VF T) ?_],[]) "p",?_];show#[_,rfl,p,dx,l,r,k,c,ps,rfl,hw,pl,_,rfl,Uy #[_,rfl,p,dx,l,r,k,c,ps,rfl,hw,su,r0,r64,q]]
def spSD(A:Ad):Sp:=fun vs H Q _=>Ex7 fun p dx l r n v ks=>qT (vs=[.ref p]) (Dn A H p dx l r n v ks) (v<=60) (ks.Pairwise (· < ·)) ((∀k∈ks,k<1152921504606846976/\∀h:Nat,uc (k*770093176312745717 % 1152921504606846976) h->v<=h)) ((ks.length:Int)<=r) (r<=64) (mV ((v=0->(ks.length:Int)<=n)) ((v≠0->r+1<=n)) (∀H',Same H H'->Q (.bl true) H'))
theorem HF(T:Tx K mg A):FnK P w base T.lU CX0 3 (spSD A):=by
 k_dat (T.lU,T.lU.ok,rH) "f"
 ·obtain⟨p,dx,l,r,n,v,ks,rfl,hd,v60,up,mo,lr,r64,f0,f1,q⟩:=h;have o:=hd.o;have hl:=hd.l;obtain⟨_,abl,abm⟩:=T.aaW;show#[_,by k_dat ([dO,QJ],[rH.nd,aB (u9 T) ?_,dj (Br rfl) (by rfl) T.ah7 Za ?_],[gF (v:=.int 60) rfl abl abm,jo [("distinct",~~~s+1)] ["thing","distinct"] [0] (te:=(tOp _ _ (abP K _ "level"))) ?_ (fun _ _ _ _=>iz) (fun _ _ _ _=>(Oj am3 (aB (aa2 T) (bV (pv 0) fO)) (pf 1) (Ea _)))]) "p",?_]
  k_dat lq "c"
  show#[_,rfl,rdG o (gq T) #[_,_,rfl,rfl,_,rfl,dh (fun z=>mM (mS z) tb_g%) fun _=>?_]];show#[_,rfl,rdG o (mF T) #[l,ks,rfl,hl,up,fun k m=>(mo k m).1,by lia,fun H1 s1=>#[_,rfl,JH ?_]]];have o1:=s1 _ _ o;have l1:=s1 _ _ hl;show#[_,rfl,rdG o1 (mF T) (cM (.inl (.inl l1)) #[_,rfl,rdG o1 (xM T) #[_,_,rfl,rfl,_,rfl,dh (fun e=>mM (mS e) (by rw[aD];lia)) fun _=>?_]])];show#[_,rfl,rdG o1 (mF T) #[l,rfl,#[_,.inl (.inl l1)],fun D hD=>?_]];refine fZ (K:=K) (a:=l) (xs:=ks.map V.int) (fun i ys G=>i<=ks.length/\ys=jd i (V.bl true)/\G D=some (.lst ys)/\Same H1 G) #[cg _,rfl,aj,Same.new hD] ?_ ?_ ?_ ?_
  ·rintro i ys G hi ⟨il,rfl,gD,sG⟩;show#[.inl (.inl (sG _ _ l1)),gD,aJ (by rw[BZ];lia)]
  ·rintro i ys G x hx ⟨il,rfl,gD,sG⟩
   k_dat (k,hi,int_at,hx) "z"
   have li:=(dI.mp hi).1;show#[_,rfl,k,rfl,fun h mh=>#[_,rfl,rdG (sG _ _ o1) (gq T) #[_,_,rfl,rfl,gD,li,?_,aj,fun b o e=>by rw[ao (ak e hD)];exact sG b o e]]];have ge:=(mo k (mv hi)).2 h mh;show jd i (V.bl true)++[V.bl (decide ((h:Int)>=v))]=_;rw[mP ge,O3]
  ·rintro ys G ⟨_,rfl,gD,sG⟩;have al:∀k,(jd k true).all id=true:=fun k=>by simp
   have o2:=sG _ _ o1;show#[D,jd _ true,rfl,.inl (.inl (by rwa[XR])),?_];rw[al];show#[_,rfl,JH ?_];show#[_,rfl,rdG o2 (gq T) #[rfl,_,rfl,dh (fun z=>?_) (fun z=>?_)]]
   ·have z:v=0:=V.int.inj (mS z);show#[_,rfl,rdG o2 (mF T) (cM (.inl (.inl (sG _ _ l1))) ?_)];show#[_,rfl,rdG o2 (iQ T) #[_,rfl,_,_,rfl,rfl,?_]];show Q (.bl (decide (n>=((ks.map V.int).length:Int)))) G;rw[mP (by have:=f0 z;rw[aD];lia)];exact q G (s1.trans sG)
   ·have z:v≠0:=fun e=>z (mP (mN V.int e));show#[_,rfl,rdG o2 (xM T) #[_,_,rfl,rfl,?_]];show#[_,rfl,rdG o2 (iQ T) #[_,rfl,_,_,rfl,rfl,?_]];show Q (.bl (decide (n>=r+1))) G;rw[mP (f1 z)];exact q G (s1.trans sG)
  ·exact mD (by rintro σ H R R' hq ⟨v,e,c,ec,q⟩;show#[v,e,c,ec,fun h mh=>hq _ _ (q h mh)]) (uL (bW 1))
theorem abn{α β:Type}(f:α->β):∀l:List α,(gY l.length).filterMap (fun i=>l[i]?.map f)=l.map f
 |[]=>rfl
 |a::l=>by
  rw[cD,adV,xT];show f a::_=_;rw[Ih];exact mN (f a :: ·) (abn f l)
theorem apu{α:Type}{xs:List α}{k lo:Nat}{m:Nat}(hb:(gZ (some (lo:Int)) none (some (k:Int)) xs.length)=(min (lo:Int) xs.length,(xs.length:Int),(k:Int)))(k0:0<k)
  (hc:(if min (lo:Int) xs.length<xs.length then((xs.length:Int)-min (lo:Int) xs.length+k-1) / k else 0).toNat=m) (hm:0<m->(lo:Int)<=xs.length):wI k xs (some (lo:Int)) none=(gY m).filterMap fun j=>xs[lo+k*j]?:=by
 unfold wI;rw[hb];unfold Pr;dsimp only;rw[mI tb_g%,hc,Ih];have fm:∀(ks:List Nat)(f g:Nat->Option α),(∀k∈ks,f k=g k)->ks.filterMap f=ks.filterMap g:=by
  intro ks f g
  induction ks with
  |nil=>intro _;rfl
  |cons k r ih =>
   intro h;rw[xT,xT,h k bY,ih fun j hj=>h j (cF _ hj)]
 refine fm _ _ _ fun j hj=>?_;have hj:=CN.mp hj;have h1:=hm tb_g%;show xs[(min (lo:Int) xs.length+k*(j:Int)).toNat]? = _;rw[show min (lo:Int) xs.length=lo by lia,show((lo:Int)+k*(j:Int)).toNat=lo+k*j by rw[<-aeK];lia]
theorem asd{α:Type}{xs:List α}{lo m:Nat}(h:xs.length=2+2*m)(hl:lo=2\/lo=3):wI 2 xs (some (lo:Int)) none=(gY m).filterMap fun j=>xs[lo+2*j]?:=by
 refine apu (k:=2) ?_ tb_g% ?_ tb_g%
 ·rcases hl with rfl|rfl <;> simp[gZ] <;> lia
 ·split
  ·rcases hl with rfl|rfl <;> lia
  ·rcases hl with rfl|rfl <;> lia
theorem cut_3{α:Type}{xs:List α}{lo m:Nat}(h:xs.length=1+3*m)(hl:lo=1\/lo=2\/lo=3):wI 3 xs (some (lo:Int)) none=(gY m).filterMap fun j=>xs[lo+3*j]?:=by
 refine apu (k:=3) ?_ tb_g% ?_ tb_g%
 ·rcases hl with rfl|rfl|rfl <;> simp[gZ] <;> lia
 ·split
  ·rcases hl with rfl|rfl|rfl <;> lia
  ·rcases hl with rfl|rfl|rfl <;> lia
theorem apv:∀c j,(pN c)[2*j]? = c[j]?.map (·.1)/\(pN c)[2*j+1]? = c[j]?.map (·.2)
 |[],j=>#[rfl,rfl]
 |p::c,0=>#[rfl,rfl]
 |p::c,j+1=>apv c j
theorem adF:∀a c,(keys (a++c)).Nodup->((keys c).zip ((vals c).map V.int)).foldl (fun d p=>putK d (Sum.inl p.1:Key) p.2) (emb a)=emb (a++c)
 |a,[],_=>by rw[yU];rfl
 |a,p::c,h=>by
  have e:a++p::c=(a++[(p.1,p.2)])++c:=by rw[iB];rfl
  have hp:p.1∉keys a:=by
   unfold keys at h ⊢;rw[aR,Ii]at h;intro m;exact h.2.2 p.1 m p.1 bY rfl
  show((keys c).zip ((vals c).map V.int)).foldl _ (putK (emb a) (Sum.inl p.1) (.int p.2))=_;rw[Gk,Gg hp,e];exact adF (a++[(p.1,p.2)]) c (by rwa[<-e])
theorem vd{ns:List Int}(h:∀n∈ns,0<=n):(ns.map zB).map wN=ns.map fun n=>V.str (sI n):=by
 rw[dB];refine xU fun n m=>?_;show V.str (Dec.tx (Dec.dg n.toNat))=V.str (sI n);rw[<-Dec.oZ,Ji (h n m)];rfl
theorem Bc{ns:List Int}(h:∀n∈ns,0<=n):((ns.map zB).map fun n:Nat=>V.int n)=ns.map V.int:=by
 rw[dB];exact xU fun n m=>mN V.int (Ji (h n m))
def spRK(A:Ad):Sp:=fun vs H Q _=>Ex5 fun a r c p l=>qT (vs=[.ref a,.int l]) (H a=some (.lst [wN r,wN c,wN p])) (r % 2=0) (2<=r) (r<=64) (1<=c) (c<=1000000000) (mV (1<=p) (p<=1000000000) (∀x H',Kp A H' x->Eqp x (K0 r c p)->(∀b∈x.all,H b=none)->(∀b∈x.ems,H b=none)->Same H H'->Q (.ref x.k) H'))
theorem abo(T:Tx K mg A):FnK P w base T.Ak CX0 10 (spRK A):=by
 k_dat (T.Ak,T.Ak.ok,Ho) "f"
 ·obtain⟨a,r,c,p,l,rfl,ha,h1,h2,h3,h4,h5,h6,h7,q⟩:=h;show#[_,by k_dat ([],[Ho.nd,aB (abj T) ?_,f9 T.abF T.En (lZ T) ?_],[]) "p",?_]
  k_dat lq "c"
  show#[_,rfl,_,rfl,a,r,c,p,l,rfl,ha,h1,h2,h3,h4,h5,h6,h7,fun D G hD sG gD=>?_];have sD:SqL K G D [.int r,.int c,.int p]:=.inl (.inl gD);show#[_,rfl,dF sD (v:=.int r) rfl #[_,rfl,dF sD (v:=.int c) rfl #[_,rfl,dF sD (v:=.int p) rfl fun k dk n1 n2 n3=>#[k,dk,r,c,p,rfl,aj,h2,h3,h1,fun y H2 kp eqy ek ag7 apw bt=>#[rfl,?_]]]]];have up2:Same G (upd (upd G dk (.own k)) k (.ins A.C'5 dk [])):=fun b o e=>by rwa[ao (ak e n1),ao (ak e n2)]
  rw [<- ek];exact q y H2 kp eqy (fun b m=>by
   rcases aP.mp (show b∈y.k::y.pts from m)with z|z
   ·rw[z,ek];exact sG.free n1
   ·exact sG.free (up2.free (ag7 b z))) (fun b m=>sG.free (up2.free (apw b m))) (sG.trans fun b o e=>bt b o (up2 b o e) (ak e n1))
theorem kW(hp:H p=some (.ins C e fs))(hD:H D=some (.lst vs)):(upd H p o) D=some (.lst vs):=by
 rwa[ao (fP hD hp (by intro z;cases z))]
theorem HJ{ns:List Int}(h:∀n∈ns,0<=n/\n<10 ^ 60):∀n∈ns.map zB,n<10 ^ 60:=fun n m=>by
 k_dat (k,mk,dH.mp,m) "z"
 have:=h k mk;lia
def spRF(A:Ad):Sp:=fun vs H Q _=>Ex7 fun f c t l a room ln=>qT (vs=[.ref f.p,.ref a,.int ln]) (mY A H room f) (H a=some (.lst (([t,l]++pN c).map fun n=>V.str (sI n)))) ((∀n∈[t,l]++pN c,0<=n/\n<10 ^ 60)) ((keys c).Pairwise (· < ·)) ((∀k∈keys c,k<1152921504606846976)) ((∀p∈c,1<=p.2)) (uU (c.length<=room) (room<=64) ((vals c).sum+((room:Int)+1)*l<=t) (∀d H',mY A H' room #[f.p,f.dx,d,t,l,c]->But f.p H H'->Q .non H'))
theorem KR(T:Tx K mg A):FnK P w base T.ou CX0 9 (spRF A):=by
 k_dat (T.ou,T.ou.ok,uQ) "f"
 ·obtain⟨f,c,t0,l0,a,room,l,rfl,hf,ha,hn,up,mo,pos,lr,r64,hs,q⟩:=h;have n0:∀n∈[t0,l0]++pN c,0<=n:=fun n m=>(hn n m).1;have nl:([t0,l0]++pN c).length=2+2*c.length:=by rw[cu,Fl];rfl
  have nd:(keys c).Nodup:=up.imp fun h e=>by lia
  show#[_,by k_dat ([JR],[uQ.nd,aB (gU T) ?_,aB (mG T) ?_,agA rfl rfl T.agU rfl T.ah9 ?_,aB (HD T) ?_],[]) "p",?_];show#[_,rfl,_,rfl,a,([t0,l0]++pN c).map zB,l,rfl,by rwa[vd n0],HJ hn,by rw[aD,nl];lia,fun D G hD sG gD=>?_];rw[Bc n0]at gD
  k_dat lqg "c"
  have sD:SqL K G D (([t0,l0]++pN c).map V.int):=.inl (.inl gD);have vl:((([t0,l0]++pN c).map V.int).length:Int)=2+2*(c.length:Int):=by rw[aD,nl];lia
  show#[_,rfl,cM sD #[_,_,rfl,rfl,_,rfl,dh (fun _=>?_) fun z=>mM (mP tb_g%) z]];show#[_,rfl,cM sD #[_,_,rfl,rfl,(by show(0:Int)<2;decide),rfl,_,rfl,l,?_,?_]]
  ·rw[mP (mN V.int (show((([t0,l0]++pN c).map V.int).length:Int) % 2=0 by rw[vl];lia))];rfl
  have o:=sG _ _ hf.o;have b:=sG.but f.p;show#[_,rfl,dF sD (v:=.int t0) (fu (j:=0) rfl) #[_,rfl,f.p,_,f.dx,_,rfl,o,T.uO,T.S6,tb_g%,?_]];rw[aa4];have g1:=kW (o:=.ins A.C'3 f.dx (fl room t0 f.l f.d)) o gD;show#[_,rfl,dF (.inl (.inl g1)) (v:=.int l0) (fu (j:=1) rfl) #[_,rfl,f.p,_,f.dx,_,rfl,aj,T.uO,T.S7,tb_g%,?_]];rw[cA,aa5];have g2:=kW (o:=.ins A.C'3 f.dx (fl room t0 l0 f.d)) o gD;have o2:(upd G f.p (.ins A.C'3 f.dx (fl room t0 l0 f.d))) f.p=some (.ins A.C'3 f.dx (fl room t0 l0 f.d)):=aj;replace b:=b.trans (But.upd (p:=f.p) (H:=G) (o:=.ins A.C'3 f.dx (fl room t0 l0 f.d)));generalize upd G f.p (.ins A.C'3 f.dx (fl room t0 l0 f.d))=G2 at g2 o2 b ⊢;have c2:wI 2 (([t0,l0]++pN c).map V.int) (some 2) none=(keys c).map V.int:=by
   rw[show(some 2:Option Int)=some ((2:Nat):Int)from rfl,asd (m:=c.length) (by rwa[aD]) (.inl rfl)];have e:(fun j=>((([t0,l0]++pN c).map V.int)[2+2*j]?:Option V))=fun j=>c[j]?.map fun p=>V.int p.1:=by
    funext j
    rw[cP,show 2+2*j=2*j+1+1 by lia];show((pN c)[2*j]?).map V.int=_;rw[(apv c j).1,Qg];rfl
   rw[e,abn];unfold keys;rw[dB];rfl
  have c3:wI 2 (([t0,l0]++pN c).map V.int) (some 3) none=(vals c).map V.int:=by
   rw[show(some 3:Option Int)=some ((3:Nat):Int)from rfl,asd (m:=c.length) (by rwa[aD]) (.inr rfl)];have e:(fun j=>((([t0,l0]++pN c).map V.int)[3+2*j]?:Option V))=fun j=>c[j]?.map fun p=>V.int p.2:=by
    funext j
    rw[cP,show 3+2*j=2*j+1+1+1 by lia];show((pN c)[2*j+1]?).map V.int=_;rw[(apv c j).2,Qg];rfl
   rw[e,abn];unfold vals;rw[dB];rfl
  show#[_,rfl,2,rfl,2,rfl,2,rfl,tb_g%,D,_,rfl,.inl (.inl g2),fun t ht=>?_];rw[c2]
  k_dat (nwA ht,G3,sT,t2) "n"
  show#[_,rfl,_,rfl,3,rfl,2,rfl,2,rfl,tb_g%,D,_,rfl,.inl (.inl (sT _ _ g2)),fun u hu=>?_];rw[c3]
  k_dat (nwA hu,G4,sU,u2) "n"
  show#[t,u,keys c,_,rfl,sU _ _ t2,u2,by rw[aD];unfold keys vals;rw[aD,aD],fun d hd=>?_];rw[show zPut (keys c) ((vals c).map V.int)=emb c from adF [] c nd]
  k_dat (nwA hd,G5,sE,d2) "n"
  have s5:=sT.trans (sU.trans sE);show#[_,rfl,f.p,_,f.dx,_,rfl,s5 _ _ o2,T.uO,T.Xb,tb_g%,?_];rw [aij];have o6:mY A (upd G5 f.p (.ins A.C'3 f.dx (fl room t0 l0 d))) room #[f.p,f.dx,d,t0,l0,c]:=#[aj,by
   show (upd G5 f.p _) d=some (.dK (emb c));rw [ao (fP d2 (s5 _ _ o2) (by intro z;cases z))];exact d2]
  have t6:=kW (o:=.ins A.C'3 f.dx (fl room t0 l0 d)) (s5 _ _ o2) ((sU.trans sE) _ _ t2);replace b:=(b.trans (s5.but f.p)).trans (But.upd (p:=f.p) (H:=G5) (o:=.ins A.C'3 f.dx (fl room t0 l0 d)));generalize upd G5 f.p (.ins A.C'3 f.dx (fl room t0 l0 d))=G6 at o6 t6 b ⊢;have lv:(keys c).map (low c)=vals c:=by
   unfold keys vals;rw[dB];exact xU fun p m=>iK nd m
  show#[_,rfl,_,rfl,#[f.p,f.dx,d,t0,l0,c],t,room,keys c,rfl,o6,t6,up,fun k m=>#[mo k m,m,by
   k_dat (p,mp,dH.mp,m) "z"
   rw [iK nd mp];exact pos p mp],by unfold keys;rw [aD];exact lr,r64,by rw [lv];exact hs,fun H' s'=>#[_,rfl,l,rfl,q d H' (o6.same s') (b.trans (s'.but f.p))]]
theorem share{α:Type}(C:α->Prop){G:α->Prop}{R:Prop}(f:(∀x,C x->G x)->R)(k:∀x,C x->G x):R:=f k
theorem ase(n:Int)(h:0<=n):sI n≠sl1:=by
 unfold sI;rw[show n=(n.toNat:Int) by lia,Dec.oZ,show sl1=#[[47].toArray] by decide +kernel];exact wN_ne tb_g%
structure Rl(y:Rs):Prop where
 n:∀n∈rN y,0<=n/\n<10 ^ 60
 l:∀l∈y.ls,(∀n∈l,0<=n/\n<10 ^ 60)/\l.length<=900
 z:y.tt=0->y.mi=none/\y.ma=none
 f:(rT y).length<=9000
 s:Sr y
theorem Rl.prt(h:Rl y):prt [] (rT y)=(rN y).map sI::y.ls.map (·.map sI):=by
 unfold rT rW;have f1:∀w∈(rN y).map sI,w≠sl1:=fun w m=>by
  k_dat (n,mn,dH.mp,m) "z"
  exact ase n (h.n n mn).1
 have e:(y.ls.flatMap fun l=>aW "/" :: l.map sI)=(y.ls.map (·.map sI)).flatMap fun g=>sl1::g:=by rw[List.flatMap_map]
 rw[adD f1,O8,e,Ud];intro g m w mw
 k_dat (l,ml,dH.mp,m) "z"
 k_dat (n,mn,dH.mp,mw) "z"
 exact ase n ((h.l l ml).1 n mn).1
def rgO(A:Ad)(x:Rs)(y:Rs)(a:Addr):HO:=.ins A.C'0 x.dx (rg (.int x.r) (.int y.tt) (.int y.ov) (.int y.un) (.int y.tn) (oV y.mi) (oV y.ma) (.ref a))
def spRR(A:Ad):Sp:=fun vs H Q _=>Ex5 fun p x y a l=>qT (vs=[.ref p,.ref a,.int l]) (RnX A H p x) (x.mi=none) (x.ma=none) (y.r=x.r) (H a=some (.lst ((rT y).map V.str))) (Rl y) (∀d bs H',H d=none->(∀b∈bs,H b=none)->RnX A H' p #[x.dx,d,bs,y.r,y.tt,y.ov,y.un,y.tn,y.mi,y.ma,y.ls]->But p H H'->Q .non H')
theorem VG(T:Tx K mg A):FnK P w base T.xg CX0 9 (spRR A):=by
 k_dat (T.xg,T.xg.ok,Cv) "f"
 ·obtain⟨p,x,y,a,l,rfl,hx,e1,e2,er,ha,L,q⟩:=h;have n0:∀n∈rN y,0<=n:=fun n m=>(L.n n m).1;have nle:(rN y).length<=6:=by
   unfold rN;cases y.mi <;> cases y.ma <;> (show _<=6;simp)
  show#[_,by k_dat ([QJ,dO],[Cv.nd,aB (ajS T) ?_,aB (gU T) ?_,aB (mG T) ?_,aB (Ue T) ?_],[jo [("line",~~~s+1)] ["group","line"] [2] ?_ (fun _ _ _ _=>iz) (fun _ _ _ _=>(aB (gU T) (bV (pv 0) (bV (pv 1) fO))))]) "p",?_];show#[_,rfl,a,rT y,rfl,ha,L.f,fun G0 ds H1 s1 g1 d1 ep=>?_];rw[L.prt]at ep
  k_dat lqg "c"
  obtain⟨⟨D0,w0⟩,ds,rfl⟩:∃z zs,ds=z::zs:=by
   cases ds with
   |nil=>cases ep
   |cons z zs=>show#[z,zs,rfl]
  rw[cR]at ep;injection ep with ew ep;have ew:w0=(rN y).map sI:=ew;subst ew;have hD0:H1 D0=some (.lst ((rN y).map fun n=>V.str (sI n))):=by
   have:=d1 (D0,(rN y).map sI) bY;rwa[dB]at this
  show#[_,rfl,dF (.inl (.inl g1)) (v:=.ref D0) (fu (j:=0) rfl) #[_,rfl,D0,(rN y).map zB,l,rfl,by rwa[vd n0],HJ L.n,by rw[aD];lia,fun D G hD sG gD=>?_]];rw[Bc n0]at gD;have sD:SqL K G D ((rN y).map V.int):=.inl (.inl gD);have l4:4<=(rN y).length:=by unfold rN;rw[cu];show 4<=4+_;lia
  show#[_,rfl,cM sD #[_,_,rfl,rfl,_,rfl,l,?_,?_]]
  ·show[V.bl (decide ((((rN y).map V.int).length:Int)>=4)),_]=_;rw[mP (by rw[aD];lia)]
  have g1:=sG _ _ g1;have s1:=s1.trans sG;have o:=s1 _ _ hx.o;rw[e1,e2]at o;have b:=s1.but p;show#[_,rfl,dF (.inl (.inl gD)) (v:=.int y.tt) (fu (j:=0) rfl) #[_,rfl,p,_,x.dx,_,rfl,o,T.fU,T.agP,tb_g%,?_]];rw[xu];show#[_,rfl,dF (.inl (.inl (kW o gD))) (v:=.int y.ov) (fu (j:=1) rfl) #[_,rfl,p,_,x.dx,_,rfl,aj,T.fU,T.agQ,tb_g%,?_]];rw[cA,Aw];show#[_,rfl,dF (.inl (.inl (kW o gD))) (v:=.int y.un) (fu (j:=2) rfl) #[_,rfl,p,_,x.dx,_,rfl,aj,T.fU,T.agR,tb_g%,?_]];rw[cA,xG];show#[_,rfl,dF (.inl (.inl (kW o gD))) (v:=.int y.tn) (fu (j:=3) rfl) #[_,rfl,p,_,x.dx,_,rfl,aj,T.fU,T.Lj,tb_g%,?_]];rw[cA,pA]
  k_dat lqn "c"
  have nz:(upd G p (rgO A x {y with mi:=none,ma:=none} x.a)) p=some (rgO A x {y with mi:=none,ma:=none} x.a):=aj;have k1:=kW (o:=rgO A x {y with mi:=none,ma:=none} x.a) o g1;have k2:∀d∈ds,(upd G p (rgO A x {y with mi:=none,ma:=none} x.a)) d.1=some (.lst (d.2.map V.str)):=fun d m=>kW o (sG _ _ (d1 d (cF _ m)));have k3:=kW (o:=rgO A x {y with mi:=none,ma:=none} x.a) o gD;replace b:=b.trans (But.upd (p:=p) (H:=G) (o:=rgO A x {y with mi:=none,ma:=none} x.a));generalize hG2:upd G p (rgO A x {y with mi:=none,ma:=none} x.a)=G2 at nz k1 k2 k3 b;refine(show upd G p (.ins A.C'0 x.dx (rg (.int x.r) (.int y.tt) (.int y.ov) (.int y.un) (.int y.tn) (oV none) (oV none) (.ref x.a)))=G2 from hG2) ▸ ?_;apply share (fun G3=>G3 p=some (rgO A x y x.a)/\But p H G3/\G3 G0=some (.lst (.ref D0::ds.map fun d=>V.ref d.1))/\∀d∈ds,G3 d.1=some (.lst (d.2.map V.str)))
  ·intro key;by_cases h0:y.tt=0
   ·have zz:=L.z h0;have rl:((((rN y).map V.int).length:Nat):Int)=4:=by unfold rN;rw[zz.1,zz.2];rfl
    show#[_,rfl,cM (.inl (.inl k3)) #[_,rfl,rdG nz (fH T) #[rfl,_,rfl,dh (fun _=>#[rfl,_,rfl,l,?_,?_]) fun z=>mM (mP (mN V.int h0)) z]]]
    ·rw[mP (mN V.int rl)];rfl
    k_dat lqn "c"
    show#[_,rfl,rdG nz (fH T) #[rfl,_,rfl,yg (mN V.int h0) ?_]];have ey:rgO A x {y with mi:=none,ma:=none} x.a=rgO A x y x.a:=by
     unfold rgO;rw[zz.1,zz.2]
    exact key G2 #[ey ▸ nz,b,k1,k2]
   ·obtain⟨_,_,lo,hi,m1,m2,_⟩:=L.s.n h0;have rn:rN y=[y.tt,y.ov,y.un,y.tn,lo,hi]:=by unfold rN;rw[m1,m2];rfl
    rw[rn]at k3;show#[_,rfl,cM (.inl (.inl k3)) #[_,rfl,rdG nz (fH T) #[rfl,_,rfl,dh (fun z=>mM (V.int.inj (mS z)) h0) fun _=>#[rfl,_,rfl,l,rfl,?_]]]];show#[_,rfl,rdG nz (fH T) #[rfl,_,rfl,dh (fun _=>?_) fun z=>mM (by rw[xj (fun e=>h0 (V.int.inj e))];rfl) z]];show#[_,rfl,dF (.inl (.inl k3)) (v:=.int lo) (fu (j:=4) rfl) #[_,rfl,p,_,x.dx,_,rfl,nz,T.fU,T.SJ,tb_g%,?_]];rw[xH];show#[_,rfl,dF (.inl (.inl (kW nz k3))) (v:=.int hi) (fu (j:=5) rfl) #[_,rfl,p,_,x.dx,_,rfl,aj,T.fU,T.SM,tb_g%,?_]];rw[cA,Ax];have ey:HO.ins A.C'0 x.dx (rg (.int x.r) (.int y.tt) (.int y.ov) (.int y.un) (.int y.tn) (.int lo) (.int hi) (.ref x.a))=rgO A x y x.a:=by
     unfold rgO;rw[m1,m2];rfl
    rw[ey];exact key _ #[aj,b.trans But.upd,kW nz k1,fun d m=>kW nz (k2 d m)]
  ·rintro G3 ⟨o3,b3,q1,q2⟩;show#[_,rfl,1,rfl,G0,_,rfl,.inl (.inl q1),fun t ht=>?_];rw[show BL (V.ref D0::ds.map fun d=>V.ref d.1) (some 1) none=ds.map fun d=>V.ref d.1 from acv (n:=1) (by rw[cD];lia)]
   k_dat (nwA ht,G4,sT,t2) "n"
   show#[t,rfl,#[_,.inl (.inl t2)],fun d hd=>?_];have dl:ds.length=y.ls.length:=by
    have:=mN fX ep;rwa[aD,aD]at this
   refine fZ (K:=K) (a:=t) (xs:=ds.map fun d=>V.ref d.1) (fun i ys J=>∃(bs:List Addr),KC (ys=bs.map V.ref) (bs.length=i) ((∀(j:Nat)(b:Addr)(l:List Int),bs[j]? = some b->y.ls[j]? = some l->J b=some (.lst (l.map V.int)))) ((∀b∈bs,b≠d/\G4 b=none)) (J d=some (.lst ys)) (Same G4 J)) #[[],rfl,rfl,fun j b l e=>by (rw[List.getElem?_nil]at e;cases e),fun _ m=>(nomatch m),aj,Same.new hd] ?_ ?_ ?_ ?_
   ·rintro i ys J hi ⟨bs,rfl,lb,cb,nb,gJ,sJ⟩;rw[aD]at hi;have:=L.s.l;show#[.inl (.inl (sJ _ _ t2)),gJ,aJ (by rw[aD];lia)]
   ·rintro i ys J v hv ⟨bs,rfl,lb,cb,nb,gJ,sJ⟩;rw[cP]at hv
    k_dat (g,hg,lB.mp,hv) "z"
    have mg:=mv hg;obtain⟨k,hk,ek⟩:∃k,y.ls[i]? = some k/\g.2=k.map sI:=by
     have:=mN (·[i]?) ep;simp only[cP,hg,aeV]at this;obtain⟨k,hk,ek⟩:=lB.mp this.symm;show#[k,hk,ek.symm]
    have Lk:=L.l k (mv hk);have z0:∀n∈k,0<=n:=fun n m=>(Lk.1 n m).1;have gg:=(sT.trans sJ) _ _ (q2 g mg);rw[ek,dB]at gg;show#[_,rfl,_,rfl,g.1,k.map zB,l,rfl,by rwa[vd z0],HJ Lk.1,by rw[aD];exact Lk.2,fun D2 J2 hD2 s2 g2=>?_];rw[Bc z0]at g2;have nd:D2≠d:=fun z=>by rw[z,gJ]at hD2;cases hD2
    show#[s2 _ _ gJ,bs++[D2],by rw[aR];rfl,by rw[cu,lb];rfl,fun j b l e1 e2=>?_,fun b m=>?_,aj,fun b o e=>?_]
    ·by_cases hj:j<bs.length
     ·rw[OJ hj]at e1;rw[ao (nb b (mv e1)).1];exact s2 _ _ (cb j b l e1 e2)
     ·rw[Ft tb_g%]at e1;have ji:j=i:=by
       have:=(dI.mp e1).1;have:([D2]:List Addr).length=1:=rfl;lia
      rw[show j-bs.length=0 by lia]at e1;rw[ji]at e2;have e1:D2=b:=bC e1;rw[hk]at e2;obtain⟨rfl⟩:=bC e2;rwa[<-e1,ao nd]
    ·walk_at "e"
     ·exact nb b m
     ·rw[bO.mp m];show#[nd,sJ.free hD2]
    ·rw[ao (ak e hd)];exact s2 _ _ (sJ _ _ e)
   ·rintro ys J ⟨bs,rfl,lb,cb,nb,gJ,sJ⟩;rw[aD,dl]at lb;have oJ:=(sT.trans sJ) _ _ o3
    k_dat (x.dx,oJ,T.fU,T.W8) "k"
    rw[Hr];have R:RnX A (upd J p (rgO A x y d)) p #[x.dx,d,bs,y.r,y.tt,y.ov,y.un,y.tn,y.mi,y.ma,y.ls]:=#[by rw[er];exact aj,kW oJ gJ,lb,fun i b l e1 e2=>kW oJ (cb i b l e1 e2),fun m=>(nb d m).1 rfl];have b4:=b3.trans (sT.but p);have hf:∀c,G4 c=none->H c=none:=fun c hc=>d9 b4 hc fun z=>by
     rw[z,sT _ _ o3]at hc;cases hc
    replace b:=(b4.trans (sJ.but p)).trans (But.upd (p:=p) (H:=J) (o:=rgO A x y d));show#[_,rfl,p,_,rfl,R,#[L.s.z,L.s.n,L.s.v,L.s.l,L.s.d,L.s.b,L.s.r],fun H' s'=>#[_,rfl,l,rfl,q d bs H' (hf d hd) (fun b m=>hf b (nb b m).2) (R.same s') (b.trans (s'.but p))]]
   ·rintro σ H R R' hq ⟨v,e,w,e2,a,ns,l,en,h1,h2,h3,q⟩;show#[v,e,w,e2,a,ns,l,en,h1,h2,h3,fun D H' hD s hH=>hq _ _ (q D H' hD s hH)]
theorem ais:∀(bs:List WN.Box)(j:Nat),(bs.flatMap bI)[3*j]? = bs[j]?.map (·.f)/\(bs.flatMap bI)[3*j+1]? = bs[j]?.map (·.l)/\(bs.flatMap bI)[3*j+2]? = bs[j]?.map (·.s)
 |[],_=>#[rfl,rfl,rfl]
 |_::_,0=>#[rfl,rfl,rfl]
 |_::bs,j+1=>ais bs j
theorem ahd{c:Int}{bs:List WN.Box}{k:Nat}{f:WN.Box->Int}(hk:k=1\/k=2\/k=3)(h:∀j,(bs.flatMap bI)[3*j+(k-1)]? = bs[j]?.map f):wI 3 ((c::bs.flatMap bI).map V.int) (some (k:Int)) none=bs.map fun b=>V.int (f b):=by
 rw[cut_3 (m:=bs.length) (by rw[aD,cD,Fj];lia) hk];have e:(fun j=>(((c::bs.flatMap bI).map V.int)[k+3*j]?:Option V))=fun j=>bs[j]?.map fun b=>V.int (f b):=by
  funext j
  rw[cP,show k+3*j=3*j+(k-1)+1 by lia,Xu,h,Qg];rfl
 rw[e,abn]
theorem apx:∀bs:List WN.Box,ahX (bs.map fun b=>V.int b.f) (bs.map fun b=>V.int b.l) (bs.map fun b=>V.int b.s)=bs.map fun b=>[.int b.f,.int b.l,.int b.s]
 |[]=>rfl
 |_::bs=>mN (_ :: ·) (apx bs)
theorem ait{α β γ:Type}(f:α->γ):∀(l:List α)(m:List β),l.length=m.length->(l.zip m).map (fun p=>f p.1)=l.map f
 |[],_,_=>rfl
 |_::_,[],h=>nomatch h
 |a::l,b::m,h=>mN (f a :: ·) (ait f l m (amC h))
theorem aiu{α β:Type}:∀(l:List α)(m:List β),l.length=m.length->(l.zip m).map (·.2)=m
 |[],[],_=>rfl
 |[],_::_,h=>nomatch h
 |_::_,[],h=>nomatch h
 |_::l,b::m,h=>mN (b :: ·) (aiu l m (amC h))
def spRW(A:Ad):Sp:=fun vs H Q _=>Ex8 fun p dx l0 r k c0 c ps=>Ex3 fun bs a l=>qT (vs=[.ref p,.ref a,.int l]) (Wn A H p dx l0 r k c0 ps) (H a=some (.lst ((c::bs.flatMap bI).map fun n=>V.str (sI n)))) ((∀n∈c::bs.flatMap bI,0<=n/\n<10 ^ 60)) (bs.length<=200) (Pl c k 0 bs) (Su r 0 0 bs.reverse) (mV (0<=r) (r<=64) (∀d ps' H',bx ps'=bs->H d=none->(∀p∈ps',H p.1=none)->Wn A H' p dx d r k c ps'->But p H H'->Q .non H'))
theorem Ug(T:Tx K mg A):FnK P w base T.tZ CX0 9 (spRW A):=by
 k_dat (T.tZ,T.tZ.ok,Av) "f"
 ·obtain⟨p,dx,l0,r,k,c0,c,ps,bs,a,l,rfl,hw,ha,hn,few,pl,su,r0,r64,q⟩:=h;have n0:∀n∈c::bs.flatMap bI,0<=n:=fun n m=>(hn n m).1;have nl:(c::bs.flatMap bI).length=1+3*bs.length:=by rw[cD,Fj];lia
  show#[_,by k_dat ([JR],[Av.nd,aB (gU T) ?_,aB (mG T) ?_,acK rfl rfl T.Ey rfl T.ah9 ?_,aB (N6 T) ?_],[]) "p",?_];show#[_,rfl,_,rfl,a,(c::bs.flatMap bI).map zB,l,rfl,by rwa[vd n0],HJ hn,by rw[aD,nl];lia,fun D G hD sG gD=>?_];rw[Bc n0]at gD;have sD:SqL K G D ((c::bs.flatMap bI).map V.int):=.inl (.inl gD);show#[_,rfl,cM sD #[_,_,rfl,rfl,(by show(0:Int)<3;decide),rfl,_,rfl,l,?_,?_]]
  ·rw[mP (mN V.int (show((((c::bs.flatMap bI).map V.int).length:Nat):Int) % 3=1 by rw[aD,nl];lia))];rfl
  have o:=sG _ _ hw.o;have b:=sG.but p;show#[_,rfl,dF sD (v:=.int c) (fu (j:=0) rfl) #[_,rfl,p,_,dx,_,rfl,o,T.uN,T.Ln,tb_g%,?_]];rw[pB];have g1:=kW (o:=.ins A.C'1 dx (wf (.int r) (.int k) (.int c) (.ref l0))) o gD;have o1:(upd G p (.ins A.C'1 dx (wf (.int r) (.int k) (.int c) (.ref l0)))) p=_:=aj;replace b:=b.trans (But.upd (p:=p) (H:=G) (o:=.ins A.C'1 dx (wf (.int r) (.int k) (.int c) (.ref l0))));generalize upd G p (.ins A.C'1 dx (wf (.int r) (.int k) (.int c) (.ref l0)))=G1 at g1 o1 b ⊢;show#[_,rfl,1,rfl,3,rfl,3,rfl,tb_g%,D,_,rfl,.inl (.inl g1),fun t ht=>?_];rw[show wI 3 ((c::bs.flatMap bI).map V.int) (some 1) none=bs.map fun b=>V.int b.f from ahd (k:=1) (.inl rfl) fun j=>(ais bs j).1]
  k_dat (nwA ht,G2,sT,t2) "n"
  show#[_,rfl,2,rfl,3,rfl,3,rfl,tb_g%,D,_,rfl,.inl (.inl (sT _ _ g1)),fun u hu=>?_];rw[show wI 3 ((c::bs.flatMap bI).map V.int) (some 2) none=bs.map fun b=>V.int b.l from ahd (k:=2) (.inr (.inl rfl)) fun j=>(ais bs j).2.1]
  k_dat (nwA hu,G3,sU,u2) "n"
  show#[_,rfl,3,rfl,3,rfl,3,rfl,tb_g%,D,_,rfl,.inl (.inl (sU _ _ (sT _ _ g1))),fun v hv=>?_];rw[show wI 3 ((c::bs.flatMap bI).map V.int) (some 3) none=bs.map fun b=>V.int b.s from ahd (k:=3) (.inr (.inr rfl)) fun j=>(ais bs j).2.2]
  k_dat (nwA hv,G4,sV,v2) "n"
  show#[t,u,v,_,_,_,rfl,sV _ _ (sU _ _ t2),sV _ _ u2,v2,by rw[aD,aD],by rw[aD,aD],fun d ts hd ht nt lt=>?_];rw[apx];rw[aD]at lt;have s4:=sT.trans (sU.trans sV);have hf:∀e,G4 e=none->H e=none:=fun e he=>d9 (b.trans (s4.but p)) he fun z=>by
   rw[z,s4 _ _ o1]at he;cases he
  have sE:Same G4 (upd (Mq G4 ts (bs.map fun b=>[.int b.f,.int b.l,.int b.s])) d (.lst (ts.map V.ref))):=fun e o he=>by
   rwa[ao (ak he hd),Rx fun m=>by rw[(ht e m).1]at he;cases he]
  have d2:Bxs (upd (Mq G4 ts (bs.map fun b=>[.int b.f,.int b.l,.int b.s])) d (.lst (ts.map V.ref))) d (ts.zip bs):=by
   show#[by rw[ait V.ref _ _ lt];exact aj,fun z m=>?_];obtain⟨i,hi⟩:=XF m;rw[Xp]at hi;rw[ao (ht z.1 (mv hi.1)).2];exact ahW nt hi.1 (by rw[cP,hi.2];rfl)
  generalize upd (Mq G4 ts (bs.map fun b=>[.int b.f,.int b.l,.int b.s])) d (.lst (ts.map V.ref))=G5 at sE d2 ⊢;have o5:=(s4.trans sE) _ _ o1
  k_dat (dx,o5,T.uN,T.W9) "k"
  rw[Hu]
  k_dat (nbA,G6,zG6,fG6) "n"
  have W:Wn A G6 p dx d r k c (ts.zip bs):=#[fG6,d2.but zG6 o5];replace b:=(b.trans ((s4.trans sE).but p)).trans zG6;have eb:bx (ts.zip bs)=bs:=aiu _ _ lt;show#[_,rfl,p,dx,d,r,k,c,_,rfl,W,by rwa[eb],by rw[eb];exact su,r0,r64,_,rfl,l,rfl,q d _ G6 eb (hf d hd) (fun z m=>hf _ (ht z.1 (X6 m).1).1) W b]
def spRD(A:Ad):Sp:=fun vs H Q _=>Ex8 fun p dx l0 r n0 v0 n v=>Ex4 fun ks0 ks a l=>qT (vs=[.ref p,.ref a,.int l]) (Dn A H p dx l0 r n0 v0 ks0) (H a=some (.lst (([n,v]++ks).map fun n=>V.str (sI n)))) ((∀m∈[n,v]++ks,0<=m/\m<10 ^ 60)) (v<=60) (ks.Pairwise (· < ·)) ((∀k∈ks,k<1152921504606846976/\∀h:Nat,uc (k*770093176312745717 % 1152921504606846976) h->v<=h)) (uV ((ks.length:Int)<=r) (r<=64) ((v=0->(ks.length:Int)<=n)) ((v≠0->r+1<=n)) (∀d H',H d=none->Dn A H' p dx d r n v ks->But p H H'->Q .non H'))
theorem KY(T:Tx K mg A):FnK P w base T.oA CX0 9 (spRD A):=by
 k_dat (T.oA,T.oA.ok,uR) "f"
 ·obtain⟨p,dx,l0,r,n1,v1,n,v,ks0,ks,a,l,rfl,hd,ha,hn,v60,up,mo,lr,r64,f0,f1,q⟩:=h;have n0:∀m∈[n,v]++ks,0<=m:=fun m h=>(hn m h).1;have nl:([n,v]++ks).length=2+ks.length:=by rw[cu];rfl
  show#[_,by k_dat ([],[uR.nd,aB (gU T) ?_,aB (mG T) ?_,aB (HF T) ?_],[]) "p",?_];show#[_,rfl,_,rfl,a,([n,v]++ks).map zB,l,rfl,by rwa[vd n0],HJ hn,by rw[aD,nl];lia,fun D G hD sG gD=>?_];rw[Bc n0]at gD;have sD:SqL K G D (([n,v]++ks).map V.int):=.inl (.inl gD);show#[_,rfl,cM sD #[_,_,rfl,rfl,_,rfl,l,?_,?_]]
  ·show[V.bl (decide ((((([n,v]++ks).map V.int).length:Nat):Int)>=2)),_]=_;rw[mP (by rw[aD,nl];lia)]
  have o:=sG _ _ hd.o;have b:=sG.but p;show#[_,rfl,dF sD (v:=.int n) (fu (j:=0) rfl) #[_,rfl,p,_,dx,_,rfl,o,T.wK,T.SQ,tb_g%,?_]];rw[oF];show#[_,rfl,dF (.inl (.inl (kW o gD))) (v:=.int v) (fu (j:=1) rfl) #[_,rfl,p,_,dx,_,rfl,aj,T.wK,T.SX,tb_g%,?_]];rw[cA,xO];have g1:=kW (o:=.ins A.C'2 dx (df (.int r) (.int n) (.int v) (.ref l0))) o gD;have o1:(upd G p (.ins A.C'2 dx (df (.int r) (.int n) (.int v) (.ref l0)))) p=_:=aj;replace b:=b.trans (But.upd (p:=p) (H:=G) (o:=.ins A.C'2 dx (df (.int r) (.int n) (.int v) (.ref l0))));generalize upd G p (.ins A.C'2 dx (df (.int r) (.int n) (.int v) (.ref l0)))=G1 at g1 o1 b ⊢;show#[_,rfl,2,rfl,D,_,rfl,.inl (.inl g1),fun d hd=>?_];rw[show BL (([n,v]++ks).map V.int) (some 2) none=ks.map V.int from acv (n:=2) (by rw[aD,nl];lia)];have nd:H d=none:=d9 b hd fun z=>by rw[z,o1]at hd;cases hd
  k_dat (nwA hd,G2,sE,d2) "n"
  have o2:=sE _ _ o1
  k_dat (dx,o2,T.wK,T.Xa) "k"
  rw[Ly];have W:Dn A (upd G2 p (.ins A.C'2 dx (df (.int r) (.int n) (.int v) (.ref d)))) p dx d r n v ks:=#[aj,kW o2 d2];replace b:=(b.trans (sE.but p)).trans (But.upd (p:=p) (H:=G2) (o:=.ins A.C'2 dx (df (.int r) (.int n) (.int v) (.ref d))));generalize upd G2 p (.ins A.C'2 dx (df (.int r) (.int n) (.int v) (.ref d)))=G3 at W b ⊢;show#[_,rfl,p,dx,d,r,n,v,ks,rfl,W,v60,up,mo,lr,r64,f0,f1,fun H' s'=>#[_,rfl,l,rfl,q d H' nd (W.same s') (b.trans (s'.but p))]]
def spRB(A:Ad):Sp:=fun vs H Q _=>Ex8 fun p dx l0 sp q0 q a l=>uV (vs=[.ref p,.ref a,.int l]) (Bn A H p dx l0 sp q0) (H a=some (.lst ((L4 q).map fun n=>V.str (sI n)))) ((∀n∈L4 q,n.natAbs<10 ^ 60)) (∀d H',H d=none->Bn A H' p dx d sp q->But p H H'->Q .non H')
theorem abp(T:Tx K mg A):FnK P w base T.Am CX0 9 (spRB A):=by
 k_dat (T.Am,T.Am.ok,aa0) "f"
 ·obtain⟨p,dx,l0,sp,q0,q4,a,l,rfl,hb,ha,hn,q⟩:=h;have sa:SqL K H a ((L4 q4).map fun n=>V.str (sI n)):=.inl (.inl ha);show#[_,by k_dat ([dO],[aB (mG T) ?_],[jo [("line",~~~s+1)] Q12 [2] ?_ (fun _ _ _ _=>iz) (fun _ _ _ _=>(aB (abk T) (bV (pv 0) (bV (pv 1) fO))))]) "p",?_]
  k_dat lq "c"
  show#[_,rfl,cM sa #[rfl,_,rfl,l,rfl,?_]];show#[_,rfl,a,rfl,#[_,sa],fun D hD=>?_];refine fZ (K:=K) (a:=a) (xs:=(L4 q4).map fun n=>V.str (sI n)) (fun i ys G=>ys=((L4 q4).take i).map V.int/\G D=some (.lst ys)/\Same H G) #[rfl,aj,Same.new hD] ?_ ?_ ?_ ?_
  ·rintro i ys G hi ⟨rfl,gD,sG⟩;show#[.inl (.inl (sG _ _ ha)),gD,aJ (by rw[aD,eX];show min i 4<=1000;lia)]
  ·rintro i ys G x hx ⟨rfl,gD,sG⟩;rw[cP]at hx
   k_dat (n,hi,lB.mp,hx) "z"
   show#[_,rfl,_,rfl,n,l,rfl,hn n (mv hi),fun G1 s1=>#[s1 _ _ gD,by rw[jg,hi,aR];rfl,aj,fun b o e=>?_]];rw[ao (ak e hD)];exact s1 _ _ (sG b o e)
  ·rintro ys G ⟨rfl,gD,sG⟩;have gD:G D=some (.lst ((L4 q4).map V.int)):=gD;have o:=sG _ _ hb.o
   k_dat (dx,o,T.Vk,T.Lp) "k"
   rw[rJ];exact q D _ hD #[aj,kW o gD] ((sG.but p).trans But.upd)
  ·rintro σ H R R' hr ⟨v,e,w,e2,n,l,en,hn,q⟩;show#[v,e,w,e2,n,l,en,hn,fun H1 s1=>hr _ _ (q H1 s1)]
abbrev nl1:Str:=aW "\n"
theorem avN:sp1=#[[32].toArray]:=by decide +kernel
theorem avO:nl1=#[[10].toArray]:=by decide +kernel
structure Gb(t:Str):Prop where
 s:32∉cL t
 n:10∉cL t
theorem asf{cs:List Char}(h:∀c∈cs.map jA,45<=c):Gb (Dec.tx cs):=by
 have k:∀c,c<45->c∉cL (Dec.tx cs):=fun c hc m=>by
  unfold cL at m;rw[Dec.o8]at m;have:=h c m;lia
 show#[k 32 tb_g%,k 10 tb_g%]
theorem gb_i(n:Int):Gb (sI n):=by
 have g:∀m:Nat,∀c∈(Dec.dg m).map jA,45<=c:=fun m c h=>by
  have:=Dec.aap m c h;lia
 unfold sI;by_cases z:n<0
 ·rw[show n = -(n.natAbs:Int) by lia,Dec.GC tb_g%];refine asf fun c m=>?_;rw[cR]at m
  walk_at "m"
  ·decide
  ·exact g _ c m
 ·rw[show n=(n.toNat:Int) by lia,Dec.oZ];exact asf (g _)
theorem Ma{ns:List Int}:∀u∈ns.map sI,Gb u:=fun u m=>by
 obtain⟨n,_,rfl⟩:=dH.mp m;exact gb_i n
theorem gb_r:∀u∈rT f,Gb u:=fun u m=>by
 walk_at "e"
 ·exact Ma u m
 ·obtain⟨l,_,m⟩:=X5.mp m
  walk_at "m"
  ·show#[by decide +kernel,by decide +kernel]
  ·exact Ma u m
abbrev Zs:=List (Str × List Str)
def lns(zs:Zs):List Str:=zs.map fun z=>ln z.1 z.2
noncomputable def zsK(x:KS):Zs:=[(aW "keep",([x.room,x.reach,x.span]:List Int).map sI),(aW "came",(fN x.cm).map sI),(aW "went",(fN x.wn).map sI),(aW "up",rT x.up.x),(aW "down",rT x.dn.x),(aW "window",(x.wi.c::(bx x.wi.ps).flatMap bI).map sI),(aW "seen",([x.di.n,x.di.v]++srt (My.up x.di.v x.di.C)).map sI),(aW "sums",(L4 x.ba.q).map sI)]
theorem lk(x:KS):jf x=lns (zsK x):=rfl
def Gz(zs:Zs):Prop:=∀z∈zs,(∀u∈z.1::z.2,Gb u)/\z.1.length<=16/\(z.2.map (·.length)).sum+z.2.length<=95000
theorem gz_of(h:Kx x):Gz (zsK x):=by
 have c:∀s∈[aW "keep",aW "came",aW "went",aW "up",aW "down",aW "window",aW "seen",aW "sums"],s.length<=16/\32∉cL s/\10∉cL s:=by decide +kernel
 have g:∀z∈zsK x,(∀u∈z.2,Gb u)/\(z.2.map (·.length)).sum+z.2.length<=95000:=by
  have p1:(fN x.cm).length<=200:=by unfold fN;rw[cu,Fl,(cY _).length_eq];have:=h.cl;show 2+_<=_;lia
  have p2:(fN x.wn).length<=200:=by unfold fN;rw[cu,Fl,(cY _).length_eq];have:=h.wl;show 2+_<=_;lia
  intro z m;unfold zsK at m;simp only[aP,jc,or_false]at m;rcases m with rfl|rfl|rfl|rfl|rfl|rfl|rfl|rfl
  ·show#[Ma,ig h.k tb_g%]
  ·show#[Ma,ig h.cn p1]
  ·show#[Ma,ig h.ws p2]
  ·show#[gb_r,KQ h.u2 h.u3 h.u4 h.u5]
  ·show#[gb_r,KQ h.d2 h.d3 h.d4 h.d5]
  ·show#[Ma,ig h.i1 (by rw[cD,Fj,gk];have:=h.i2;lia)]
  ·show#[Ma,ig h.s1 (by rw[cu];have:=h.s2;show 2+_<=_;lia)]
  ·show#[Ma,ig h.b tb_g%]
 intro z m;have cz:=c _ (yQ (f:=(·.1)) m);show#[fun u mu=>?_,cz.1,(g z m).2];rcases aP.mp mu with rfl|mu
 ·show#[cz.2.1,cz.2.2]
 ·exact(g z m).1 u mu
theorem zl{zs:Zs}(gz:Gz zs){k:Nat}{z:Str × List Str}(h:zs[k]? = some z):vH (cZ sp1 (z.1::z.2)) sp1=z.1::z.2/\(cZ sp1 (z.1::z.2)).length<=1048576:=by
 obtain⟨g1,g2,g3⟩:=gz z (mv h);show#[by rw[avN];exact Rq (kZ _ _) fun u m=>(g1 u m).s,?_];have:=ud g2 g3;unfold ln at this;lia
theorem arx(g:Gz zs)(ne:zs≠[]):vH (cZ nl1 (lns zs)) nl1=lns zs:=by
 rw[avO];refine Rq (fun e=>ne (XH.mp e)) fun t m=>?_
 k_dat (z,mz,dH.mp,m) "z"
 have g1:=(g z mz).1;show 10∉cL (cZ sp1 (z.1::z.2));rw[BJ];intro m
 walk_at "e"
 ·exact(g1 _ bY).n m
 ·obtain⟨u,mu,m⟩:=X5.mp m
  walk_at "e"
  ·exact mM m tb_g%
  ·exact(g1 u (cF _ mu)).n m
theorem text_len(g:Gz zs)(h:zs.length<=8):(cZ nl1 (lns zs)).length<=1048576:=by
 have h1:=jZ nl1 (lns zs);have h2:nl1.length=1:=by decide +kernel
 have h3:∀zs:Zs,Gz zs->((lns zs).map (·.length)).sum<=95017*zs.length:=by
  intro zs
  induction zs with
  |nil=>intro _;exact aK _
  |cons z zs ih =>
   intro g;have k1:=ih fun y m=>g y (cF _ m);have k2:=ud (g z bY).2.1 (g z bY).2.2;show(ln z.1 z.2).length+((lns zs).map (·.length)).sum<=95017*(zs.length+1);lia
 have h4:=h3 zs g;have h5:(lns zs).length=zs.length:=aD _;rw[h2,h5]at h1;lia
structure Sf(room:Nat)(f:Fq):Prop where
 n:∀n∈fN f,0<=n/\n<10 ^ 60
 u:(keys (eV f.c)).Pairwise (· < ·)
 k:∀k∈keys (eV f.c),k<1152921504606846976
 v:∀p∈eV f.c,1<=p.2
 r:(eV f.c).length<=room
 s:(vals (eV f.c)).sum+((room:Int)+1)*f.l<=f.t
structure Sd(x:KS):Prop where
 kx:Kx x
 k:x.room % 2=0/\2<=x.room/\x.room<=64
 r:1<=x.reach/\x.reach<=1000000000
 p:1<=x.span/\x.span<=1000000000
 cm:Sf x.room x.cm
 wn:Sf x.room x.wn
 up:Rl x.up.x
 ur:x.up.x.r=x.room
 dn:Rl x.dn.x
 dr:x.dn.x.r=x.room
 wn1:∀n∈x.wi.c::(bx x.wi.ps).flatMap bI,0<=n/\n<10 ^ 60
 wp:Pl x.wi.c x.reach 0 (bx x.wi.ps)
 ws:Su x.room 0 0 (bx x.wi.ps).reverse
 dn1:∀n∈[x.di.n,x.di.v]++srt (My.up x.di.v x.di.C),0<=n/\n<10 ^ 60
 dv:x.di.v<=60
 du:(srt (My.up x.di.v x.di.C)).Pairwise (· < ·)
 dm:∀k∈srt (My.up x.di.v x.di.C),k<1152921504606846976/\∀h:Nat,uc (k*770093176312745717 % 1152921504606846976) h->x.di.v<=h
 dl:((srt (My.up x.di.v x.di.C)).length:Int)<=x.room
 d0:x.di.v=0->((srt (My.up x.di.v x.di.C)).length:Int)<=x.di.n
 d1:x.di.v≠0->(x.room:Int)+1<=x.di.n
 ba:∀n∈L4 x.ba.q,n.natAbs<10 ^ 60
noncomputable def rdK(x:KS):KS:={ x with cm:={ x.cm with c:=eV x.cm.c },wn:={ x.wn with c:=eV x.wn.c } }
theorem mm{ns:List Int}{H:Hp}{a:Addr}(h:H a=some (.lst ((ns.map sI).map V.str))):H a=some (.lst (ns.map fun n=>V.str (sI n))):=by
 rwa[dB]at h
theorem qY(s:Same H G)(n:H p=none)(b:But p G J):Same H J:=fun c o e=>b c o (s c o e) (ak e n)
def spRd(A:Ad):Sp:=fun vs H Q _=>∃y,mV (vs=[.str (cZ nl1 (jf y))]) (Sd y) (∀x H',Kp A H' x->Eqp x (rdK y)->(∀b∈x.all,H b=none)->(∀b∈x.ems,H b=none)->Same H H'->Q (.ref x.k) H')
theorem KZ(T:Tx K mg A):FnK P w base T.oE CX0 11 (spRd A):=by
 k_dat (T.oE,T.oE.ok,uT) "f"
 ·obtain⟨y,rfl,S,q⟩:=h;have gz:=gz_of S.kx;rw[lk];obtain⟨_,arz,arA⟩:=T.aqM;show#[_,by k_dat ([],[uT.nd,yd Lb amg amh acD ?_ ?_,aB (adz T) ?_,aB (abo T) ?_,aB (KR T) ?_,aB (VG T) ?_,aB (Ug T) ?_,aB (KY T) ?_,aB (abp T) ?_,aB (mG T) ?_],[gF (v:=.int 8) rfl arz arA]) "p",?_];refine sq fun R hR=>#[_,rfl,rfl,_,_,rfl,rfl,by decide +kernel,text_len gz (aK 8),fun D hD=>?_];rw[arx gz (kZ _ _)]
  k_dat (nwA hD,H1,s0,lD) "n"
  refine hR _ _ (sq fun R hR=>#[_,rfl,D,lns (zsK y),0,_,aW "keep",rfl,lD,rfl,(zl gz (k:=0) rfl).1,(zl gz (k:=0) rfl).2,tb_g%,fun W J nW sJ wJ=>?_]);have S1:=S.k;have S2:=S.r;have S3:=S.p;show#[W,y.room,y.reach.toNat,y.span.toNat,1,rfl,?_,S1.1,S1.2.1,S1.2.2,by lia,by lia,by lia,by lia,fun x G kG eq0 fr _ sG=>?_]
  ·exact(mm wJ).trans (mN (fun l=>some (HO.lst l)) (vd (ns:=[(y.room:Int),y.reach,y.span]) (by simp;lia)).symm)
  have fr:=fun b m=>sJ.free (fr b m);replace sG:=sJ.trans sG;clear sJ nW wJ;obtain⟨k,dk,room,reach,span,cm,wn,up,dn,wi,di,ba⟩:=x;obtain rfl:room=y.room:=eq0.room;obtain rfl:reach=y.reach:=eq0.reach.trans (Ji tb_g%);obtain rfl:span=y.span:=eq0.span.trans (Ji tb_g%);obtain⟨-,-,-,-,-,eu,ed,-,-,-⟩:=eq0;have eur:up.x.r=y.room:=eu.r;have edr:dn.x.r=y.room:=ed.r;refine hR _ _ (sq fun R hR=>#[_,rfl,rdG kG.o (Bv T) #[_,rfl,D,lns (zsK y),1,_,aW "came",rfl,sG _ _ lD,rfl,(zl gz (k:=1) rfl).1,(zl gz (k:=1) rfl).2,tb_g%,fun W J nW sJ wJ=>?_]]);have kJ:=kG.same sJ;show#[cm,eV y.cm.c,y.cm.t,y.cm.l,W,y.room,2,rfl,kJ.cm,mm wJ,S.cm.n,S.cm.u,S.cm.k,S.cm.v,S.cm.r,S1.2.2,S.cm.s,fun d G2 hF bF=>?_]
  k_dat 1 "j"
  have kG2:=(kJ.pp.setC (f:=#[cm.p,cm.dx,d,y.cm.t,y.cm.l,eV y.cm.c]) rfl bF hF).kp (bF _ _ kJ.o (Kp.ap kJ).k1) kJ.nk
  skip
  clear kG sG kJ sJ wJ nW bF hF;have kG:=kG2;have sG:=sG2;clear kG2 sG2;dsimp only at kG;refine hR _ _ (sq fun R hR=>#[_,rfl,rdG kG.o (Bw T) #[_,rfl,D,lns (zsK y),2,_,aW "went",rfl,sG _ _ lD,rfl,(zl gz (k:=2) rfl).1,(zl gz (k:=2) rfl).2,tb_g%,fun W J nW sJ wJ=>?_]]);have kJ:=kG.same sJ;show#[wn,eV y.wn.c,y.wn.t,y.wn.l,W,y.room,3,rfl,kJ.wn,mm wJ,S.wn.n,S.wn.u,S.wn.k,S.wn.v,S.wn.r,S1.2.2,S.wn.s,fun d G2 hF bF=>?_]
  k_dat 2 "j"
  have kG2:=(kJ.pp.setW (f:=#[wn.p,wn.dx,d,y.wn.t,y.wn.l,eV y.wn.c]) rfl bF hF).kp (bF _ _ kJ.o (Kp.ap kJ).k2) kJ.nk
  skip
  clear kG sG kJ sJ wJ nW bF hF;have kG:=kG2;have sG:=sG2;clear kG2 sG2;dsimp only at kG;refine hR _ _ (sq fun R hR=>#[_,rfl,rdG kG.o (Xl T) #[_,rfl,D,lns (zsK y),3,_,aW "up",rfl,sG _ _ lD,rfl,(zl gz (k:=3) rfl).1,(zl gz (k:=3) rfl).2,tb_g%,fun W J nW sJ wJ=>?_]]);have kJ:=kG.same sJ;show#[up.p,up.x,y.up.x,W,4,rfl,kJ.up,eu.mi,eu.ma,S.ur.trans eur.symm,wJ,S.up,fun du bu G2 nd nb hF bF=>?_]
  k_dat 3 "j"
  have kG2:=(kJ.pp.setU (f:=#[up.p,#[up.x.dx,du,bu,y.up.x.r,y.up.x.tt,y.up.x.ov,y.up.x.un,y.up.x.tn,y.up.x.mi,y.up.x.ma,y.up.x.ls]]) rfl bF hF).kp (bF _ _ kJ.o (Kp.ap kJ).k3) kJ.nk;have nu:=And.intro ((sG.trans sJ).free nd) fun b m=>(sG.trans sJ).free (nb b m);clear kG sG kJ sJ wJ nW bF nd nb hF;have kG:=kG2;have sG:=sG2;clear kG2 sG2;dsimp only at kG;refine hR _ _ (sq fun R hR=>#[_,rfl,rdG kG.o (Bx T) #[_,rfl,D,lns (zsK y),4,_,aW "down",rfl,sG _ _ lD,rfl,(zl gz (k:=4) rfl).1,(zl gz (k:=4) rfl).2,tb_g%,fun W J nW sJ wJ=>?_]]);have kJ:=kG.same sJ;show#[dn.p,dn.x,y.dn.x,W,5,rfl,kJ.dn,ed.mi,ed.ma,S.dr.trans edr.symm,wJ,S.dn,fun dd bd G2 nd nb hF bF=>?_]
  k_dat 4 "j"
  have kG2:=(kJ.pp.setD (f:=#[dn.p,#[dn.x.dx,dd,bd,y.dn.x.r,y.dn.x.tt,y.dn.x.ov,y.dn.x.un,y.dn.x.tn,y.dn.x.mi,y.dn.x.ma,y.dn.x.ls]]) rfl bF hF).kp (bF _ _ kJ.o (Kp.ap kJ).k4) kJ.nk;have nv:=And.intro ((sG.trans sJ).free nd) fun b m=>(sG.trans sJ).free (nb b m);clear kG sG kJ sJ wJ nW bF nd nb hF;have kG:=kG2;have sG:=sG2;clear kG2 sG2;dsimp only at kG;refine hR _ _ (sq fun R hR=>#[_,rfl,rdG kG.o (jJ T) #[_,rfl,D,lns (zsK y),5,_,aW "window",rfl,sG _ _ lD,rfl,(zl gz (k:=5) rfl).1,(zl gz (k:=5) rfl).2,tb_g%,fun W J nW sJ wJ=>?_]]);have kJ:=kG.same sJ;show#[wi.p,wi.dx,wi.l,y.room,y.reach,wi.c,y.wi.c,wi.ps,bx y.wi.ps,W,6,rfl,kJ.wi,mm wJ,S.wn1,by rw[gk];have:=S.kx.i2;lia,S.wp,S.ws,by lia,by lia,fun dw ps G2 eW nd nb hF bF=>?_]
  k_dat 5 "j"
  have kG2:=(kJ.pp.setI (f:=#[wi.p,wi.dx,dw,y.wi.c,ps]) rfl bF hF).kp (bF _ _ kJ.o (Kp.ap kJ).k5) kJ.nk;have nw:=(sG.trans sJ).free nd;clear kG sG kJ sJ wJ nW bF nd nb hF;have kG:=kG2;have sG:=sG2;clear kG2 sG2;dsimp only at kG;refine hR _ _ (sq fun R hR=>#[_,rfl,rdG kG.o (rK T) #[_,rfl,D,lns (zsK y),6,_,aW "seen",rfl,sG _ _ lD,rfl,(zl gz (k:=6) rfl).1,(zl gz (k:=6) rfl).2,tb_g%,fun W J nW sJ wJ=>?_]]);have kJ:=kG.same sJ;show#[di.p,di.dx,di.l,y.room,di.n,di.v,y.di.n,y.di.v,_,_,W,7,rfl,kJ.di,mm wJ,S.dn1,S.dv,S.du,S.dm,S.dl,by lia,S.d0,S.d1,fun ds G2 nd hF bF=>?_]
  k_dat 6 "j"
  have kG2:=(kJ.pp.setS (f:=#[di.p,di.dx,ds,y.di.n,y.di.v,y.di.C]) rfl bF hF).kp (bF _ _ kJ.o (Kp.ap kJ).k6) kJ.nk;have nx:=(sG.trans sJ).free nd;clear kG sG kJ sJ wJ nW bF nd hF;have kG:=kG2;have sG:=sG2;clear kG2 sG2;dsimp only at kG;refine hR _ _ (sq fun R hR=>#[_,rfl,rdG kG.o (iR T) #[_,rfl,D,lns (zsK y),7,_,aW "sums",rfl,sG _ _ lD,rfl,(zl gz (k:=7) rfl).1,(zl gz (k:=7) rfl).2,tb_g%,fun W J nW sJ wJ=>?_]]);have kJ:=kG.same sJ;show#[ba.p,ba.dx,ba.l,y.span,ba.q,y.ba.q,W,8,rfl,kJ.ba,mm wJ,S.ba,fun d G2 nd hF bF=>?_]
  k_dat 7 "j"
  have kG2:=(kJ.pp.setB (f:=#[ba.p,ba.dx,d,y.ba.q]) rfl bF hF).kp (bF _ _ kJ.o (Kp.ap kJ).k7) kJ.nk
  skip
  clear kG sG kJ sJ wJ nW bF nd hF;have kG:=kG2;have sG:=sG2;clear kG2 sG2;dsimp only at kG;refine hR _ _ #[_,rfl,cM (.inl (.inl (sG _ _ lD))) #[rfl,_,_,rfl,rfl,9,rfl,_,rfl,?_]];have fin:=q _ _ kG #[rfl,rfl,rfl,#[rfl,rfl,rfl],#[rfl,rfl,rfl],#[rfl,rfl,rfl,rfl,rfl,rfl,rfl,rfl],#[rfl,rfl,rfl,rfl,rfl,rfl,rfl,rfl],#[rfl,eW],#[rfl,rfl,rfl],rfl] (fun b m=>s0.free (fr b m)) (fun b m=>s0.free (by
   have m:b∈du::dd::dw::ds::(bu++bd):=m;simp only[aP,bH]at m;rcases m with rfl|rfl|rfl|rfl|m|m
   ·exact nu.1
   ·exact nv.1
   ·exact nw
   ·exact nx
   ·exact nu.2 b m
   ·exact nv.2 b m)) (s0.trans sG)
  exact fin
theorem aiv(n:(keys c).Nodup)(p:Int × Int):p∈c↔p.1∈keys c/\low c p.1=p.2:=by
 show#[fun m=>#[yQ m,iK n m],fun h=>?_];obtain⟨q,mq,e⟩:=dH.mp h.1;have:=iK n mq;have e2:q=p:=by
  refine jO e ?_;rw[<-this,show q.1=p.1 from e];exact h.2
 rwa[<-e2]
theorem ash(n:(keys c).Nodup):c.Nodup:=atO (f:=fun p:Int × Int=>p.1) (S:=(· ≠ ·)) (fun a b h e=>h (by rw[e])) n
theorem uf{a b:Tab}(h:a.Perm b):(keys a).Perm (keys b):=h.map _
theorem ahe{a b:Tab}(h:a.Perm b):(vals a).Perm (vals b):=h.map _
theorem apy(na:(keys a).Nodup)(nb:(keys b).Nodup)(hk:∀k,k∈keys a↔k∈keys b)(hl:∀k,low a k=low b k):a.Perm b:=
 (aj8 (ash na) (ash nb)).mpr fun p=>by rw[aiv na,aiv nb,hk,hl]
theorem HN{a b:Tab}(na:(keys a).Nodup)(h:a.Perm b)(k:Int):low a k=low b k:=by
 have nb:(keys b).Nodup:=(uf h).nodup_iff.mp na;by_cases m:k∈keys a
 ·k_dat (p,mp,dH.mp,m) "z"
  rw[iK na mp,iK nb (h.mem_iff.mp mp)]
 ·rw[iJ m,iJ fun z=>m ((uf h).mem_iff.mpr z)]
theorem ajT{a b c d:Tab}(na:(keys a).Nodup)(nc:(keys c).Nodup)(h:a.Perm b)(g:c.Perm d):(kY a c).Perm (kY b d):=by
 have nb:(keys b).Nodup:=(uf h).nodup_iff.mp na;have nd:(keys d).Nodup:=(uf g).nodup_iff.mp nc;refine apy (Bh _ na) (Bh _ nb) (fun k=>?_) fun k=>?_
 ·rw[Bj,Bj,show k∈keys a↔k∈keys b from(uf h).mem_iff,show k∈keys c↔k∈keys d from(uf g).mem_iff]
 ·rw[zZ _ _ _ nc,zZ _ _ _ nd,HN na h,HN nc g]
theorem apz(h:eF room c a x)(g:eF room d b y)(e:c.Perm d):a.Perm b/\x=y:=by
 unfold eF at h g;rw[<-e.length_eq]at g;by_cases z:c.length<=room
 ·rw[mI z]at h g;rw[h.2,g.2];show#[e,h.1.trans g.1.symm]
 ·rw[mB z]at h g;obtain⟨s,h1,h2,h3⟩:=h.1;have xy:x=y:=IsCut.uniq (c:=d) #[s,h1.trans (ahe e),h2,h3] g.1;rw[h.2,g.2,xy];show#[(e.filter _).map _,rfl]
theorem aiw{c d:Tab}(n:(keys c).Nodup)(e:c.Perm d):eV c=eV d:=by
 refine asR (le:=fun a b:Int × Int=>a.1<=b.1) (fun p q m1 m2 h1 h2=>?_) (Oz c) (Oz d) ((cY c).trans (e.trans (cY d).symm));have m1:=(cY c).mem_iff.mp m1;have m2:=e.symm.mem_iff.mp ((cY d).mem_iff.mp m2);have k:p.1=q.1:=by lia
 refine jO k ?_;rw[<-iK n m1,<-iK n m2,k]
theorem adG(e:eV c=eV d):c.Perm d:=(cY c).symm.trans (e ▸ cY d)
theorem BK(n:(keys c).Nodup):eV (eV c)=eV c:=(aiw n (cY c).symm).symm
structure Nk(x:KS):Prop where
 c:(keys x.cm.c).Nodup
 w:(keys x.wn.c).Nodup
def Ep(x y:KS):Prop:=Eqp (rdK x) (rdK y)
theorem FP.ep(a:FP room f g h)(b:FP room f' g' h')(nf:(keys f.c).Nodup)(ng:(keys g.c).Nodup)(e1:EF { f with c:=eV f.c } { f' with c:=eV f'.c })(e2:EF { g with c:=eV g.c } { g' with c:=eV g'.c }):EF { h with c:=eV h.c } { h' with c:=eV h'.c }:=by
 obtain⟨x,a1,a2,a3⟩:=a;obtain⟨y,b1,b2,b3⟩:=b;have t1:f.t=f'.t:=e1.t;have t2:g.t=g'.t:=e2.t;have l1:f.l=f'.l:=e1.l;have l2:g.l=g'.l:=e2.l;have p:=ajT nf ng (adG e1.c) (adG e2.c);obtain⟨q,xy⟩:=apz a1 b1 p;have nh:(keys h.c).Nodup:=by
  have n:=Bh g.c nf;unfold eF at a1;by_cases z:(kY f.c g.c).length<=room
  ·rw[mI z]at a1;rwa[a1.2]
  ·rw[mB z]at a1;rw[a1.2];exact anx n _
 show#[by show h.t=h'.t;lia,by show h.l=h'.l;lia,aiw nh q]
theorem KP.ep(a:KP x y z)(b:KP x' y' z')(e:Ep x x')(d:Ep y y')(nx:Nk x)(ny:Nk y):Ep z z':=by
 have er:x.room=x'.room:=e.room;have ec:x.reach=x'.reach:=e.reach;have es:x.span=x'.span:=e.span;have ui:∀{f g h f' g' h':Rs},RP f g h->RP f' g' h'->ER f f'->ER g g'->ER h h':=fun {f g h f' g' h'} p q u v=>by
  have p2:RP f' g' h:=#[by rw[p.r,u.r],by rw[p.tt,u.tt,v.tt],by rw[p.mi,u.mi,v.mi],by rw[p.ma,u.ma,v.ma],by have:=p.st;rwa[u.r,u.tn,v.tn,u.ov,v.ov,u.un,v.un,u.ls,v.ls]at this];exact p2.eq q
 have wi1:x.wi.c=x'.wi.c:=e.wi.1;have wi2:bx x.wi.ps=bx x'.wi.ps:=e.wi.2;have wi3:y.wi.c=y'.wi.c:=d.wi.1;have wi4:bx y.wi.ps=bx y'.wi.ps:=d.wi.2;have d1:x.di.n=x'.di.n:=e.di.1;have d2:x.di.C=x'.di.C:=e.di.3;have d3:y.di.n=y'.di.n:=d.di.1;have d4:y.di.C=y'.di.C:=d.di.3;have b1:x.ba.q=x'.ba.q:=e.ba;have b2:y.ba.q=y'.ba.q:=d.ba;have bw:=b.wi;have bd:=b.di;unfold WP at bw;unfold DP at bd;rw[<-er,<-ec,<-wi1,<-wi2,<-wi3,<-wi4]at bw;rw[<-er,<-d1,<-d2,<-d3,<-d4]at bd;show#[by show z.room=z'.room;rw[a.room,b.room,er],by show z.reach=z'.reach;rw[a.reach,b.reach,ec],by show z.span=z'.span;rw[a.span,b.span,es],a.cm.ep (er ▸ b.cm) nx.c ny.c e.cm d.cm,a.wn.ep (er ▸ b.wn) nx.w ny.w e.wn d.wn,ui a.up b.up e.up d.up,ui a.dn b.dn e.dn d.dn,#[a.wi.1.trans bw.1.symm,a.wi.2.trans bw.2.symm],#[a.di.1.trans bd.1.symm,a.di.2.2.uniq bd.2.2,a.di.2.1.trans bd.2.1.symm],?_];show z.ba.q=z'.ba.q;rw[a.ba,b.ba,b1,b2]
theorem Eqp.ep(h:Eqp x y):Ep x y:=#[h.room,h.reach,h.span,#[h.cm.t,h.cm.l,mN eV h.cm.c],#[h.wn.t,h.wn.l,mN eV h.wn.c],h.up,h.dn,h.wi,h.di,h.ba]
theorem aix(n:Nk x):Hz (rdK x)=Hz x:=by
 simp only[Hz,Hy,rdK,BK n.c,BK n.w]
theorem adH(n:Nk x):jf (rdK x)=jf x:=by
 simp only[jf,fN,rdK,BK n.c,BK n.w]
theorem Ep.tree(h:Ep x y)(n:Nk x)(m:Nk y):Hz x=Hz y:=by
 rw[<-aix n,<-aix m];exact Eqp.tree h
theorem apA(e:Eqp x y):jf x=jf y:=by
 unfold jf fN rT rN;rw[e.room,e.reach,e.span,e.cm.t,e.cm.l,e.cm.c,e.wn.t,e.wn.l,e.wn.c,e.up.tt,e.up.ov,e.up.un,e.up.tn,e.up.mi,e.up.ma,e.up.ls,e.dn.tt,e.dn.ov,e.dn.un,e.dn.tn,e.dn.mi,e.dn.ma,e.dn.ls,e.wi.c,e.wi.b,e.di.n,e.di.v,e.di.C,e.ba]
theorem Ep.lines(h:Ep x y)(n:Nk x)(m:Nk y):jf x=jf y:=by
 rw[<-adH n,<-adH m];exact apA h
theorem rd_ep(n:Nk y)(e:Eqp x (rdK y)):Ep x y:=by
 have:=e.ep;unfold Ep at this ⊢;have r:rdK (rdK y)=rdK y:=by simp only[rdK,BK n.c,BK n.w]
 rwa[r]at this
def Bo(e c:Int)(b:WN.Box):Prop:=0<b.f/\b.f<=b.l/\1<=b.s/\b.l<=c/\e<b.l
structure Wp(r e c:Int)(bs:List WN.Box):Prop where
 b:∀b∈bs,Bo e c b
 o:bs.Pairwise fun x y=>x.l<y.f
 m:WN.Multi r 0 bs.reverse
theorem HS:∀{os:List WN.Box}{S:Int},os.Pairwise (fun x y=>y.l<x.f)->(∀b∈os,b.f<=b.l)->WN.Multi r S os->WN.Multi r S (os.filter fun b=>decide (e<b.l))
 |[],_,_,_,_=>trivial
 |b::os,S,o,h,m=>by
  have o:=fW.mp o;rw[rO];split
  ·show#[m.1,HS o.2 (fun x mx=>h x (cF _ mx)) m.2]
  ·rename_i z;have:os.filter (fun b=>decide (e<b.l))=[]:=O2.mpr fun x mx=>by
    have h1:=o.1 x mx;have h2:=h b bY;have h3:¬ e<b.l:=fun y=>z (mP y);simp only[decide_eq_true_eq];lia
   rw[this];trivial
theorem Uh:∀os S b,(b::os).Pairwise (fun x y=>y.l<x.f)->(∀x∈b::os,Bo e c x)->(WN.settle r S b os).Pairwise (fun x y=>y.l<x.f)/\(∀x∈WN.settle r S b os,Bo e c x)/\∀t,(∀x∈b::os,x.l<t)->∀x∈WN.settle r S b os,x.l<t
 |[],S,b,o,h=>#[o,h,fun t g=>g]
 |q::os,S,b,o,h=>by
  obtain⟨o1,o2⟩:=fW.mp o;have hb:=h b bY;have hq:=h q (cF _ bY);have bq:=o1 q bY;rw[WN.gB];split
  ·obtain ⟨p1,p2,p3⟩:=Uh os S #[q.f,b.l,b.s+q.s] (fW.mpr #[(fW.mp o2).1,(fW.mp o2).2]) (fun x m=>by
    walk_at "m"
    ·show#[hq.1,by have:=hq.2.1;have:=hb.2.1;show q.f<=b.l;lia,by have:=hq.2.2.1;have:=hb.2.2.1;show 1<=b.s+q.s;lia,hb.2.2.2.1,hb.2.2.2.2]
    ·exact h x (cF _ (cF _ m)))
   show#[p1,p2,fun t g=>p3 t fun x m=>?_]
   walk_at "m"
   ·exact g b bY
   ·exact g x (cF _ (cF _ m))
  ·obtain⟨p1,p2,p3⟩:=Uh os (S+b.s) q o2 fun x m=>h x (cF _ m);show#[fW.mpr #[p3 b.f o1,p1],fun x m=>?_,fun t g x m=>?_]
   ·walk_at "m"
    ·exact hb
    ·exact p2 x m
   ·walk_at "m"
    ·exact g _ bY
    ·exact p3 t (fun y my=>g y (cF _ my)) x m
structure Wo(r e c:Int)(bs:List WN.Box):Prop where
 p:Wp r e c bs
 n:WN.Aa r 0 bs.reverse
theorem Wp.settle(h:Wp r d c bs)(r0:0<=r):Wo r e c (gn r e bs):=by
 have f1:∀b∈(bs.filter fun b=>decide (e<b.l)).reverse,Bo e c b:=fun b m=>by
  obtain⟨m1,m2⟩:=pG.mp (uo.mp m);have:=h.b b m1;show#[this.1,this.2.1,this.2.2.1,this.2.2.2.1,mS m2]
 have f2:(bs.filter fun b=>decide (e<b.l)).reverse.Pairwise fun x y=>y.l<x.f:=adW.mpr (h.o.filter _);have f3:WN.Multi r 0 (bs.filter fun b=>decide (e<b.l)).reverse:=by
  rw[<-List.filter_reverse];exact HS (adW.mpr h.o) (fun b m=>(h.b b (uo.mp m)).2.1) h.m
 unfold gn;generalize (bs.filter fun b=>decide (e<b.l)).reverse=cs at f1 f2 f3;have k:(WN.settled r cs).Pairwise (fun x y=>y.l<x.f)/\∀x∈WN.settled r cs,Bo e c x:=by
  cases cs with
  |nil=>show#[List.Pairwise.nil,fun _ m=>nomatch m]
  |cons b os =>
   have:=Uh (r:=r) os 0 b f2 f1;show#[this.1,this.2.1]
 show#[#[fun b m=>k.2 b (uo.mp m),adW.mpr k.1,by rw[akh];exact WN.UL f3],by rw[akh];exact WN.UW r0 fun x m=>by have:=(f1 x m).2.2.1;lia]
theorem Wp.le(h:Wp r e c bs)(l:c<=d):Wp r e d bs:=#[fun b m=>by have:=h.b b m;show#[this.1,this.2.1,this.2.2.1,by have:=this.2.2.2.1;lia,this.2.2.2.2],h.o,h.m]
theorem Wp.snoc{r e c w:Int}(h:Wp r e c bs)(c0:0<=c)(w1:1<=w):Wp r 0 (c+1) (bs++[#[c+1,c+1,w]]):=by
 show#[fun b m=>?_,Xz.mpr #[h.o,akb ..,fun x mx y my=>?_],?_]
 ·walk_at "e"
  ·obtain⟨a1,a2,a3,a4,-⟩:=h.b b m;show#[a1,a2,a3,by lia,by lia]
  ·rw[bO.mp m];show#[by show 0<c+1;lia,cC _,w1,cC _,by show 0<c+1;lia]
 ·rw[bO.mp my];have:=(h.b x mx).2.2.2.1;show x.l<c+1;lia
 ·rw[Ig];show#[fun z=>mM rfl z,WN.Multi.mono (by show 0<=0+w;lia) h.m]
theorem Xn:∀{a b:List WN.Box}{S:Int},(∀x∈a,0<=x.s)->WN.Multi r S a->WN.Multi r S b->WN.Multi r S (a++b)
 |[],_,_,_,_,m=>m
 |x::_,_,_,h,m,n=>#[m.1,Xn (fun y my=>h y (cF _ my)) m.2 (WN.Multi.mono (by have:=h x bY;lia) n)]
theorem Mf:∀{a:List WN.Box}{S:Int},WN.Multi r S a->WN.Multi r S (a.map (shift c))
 |[],_,_=>trivial
 |x::_,_,m=>#[fun z=>m.1 fun e=>z (by show x.f+c=x.l+c;rw[e]),Mf m.2]
theorem Wp.app(h:Wp r e c xs)(g:Wp r f d ys)(c0:0<=c)(d0:0<=d):Wp r 0 (c+d) (xs++ys.map (shift c)):=by
 have hy:∀y∈ys.map (shift c),Bo 0 (c+d) y/\c<y.f:=fun y m=>by
  k_dat (z,mz,dH.mp,m) "z"
  obtain⟨a1,a2,a3,a4,-⟩:=g.b z mz;show#[#[by show 0<z.f+c;lia,by show z.f+c<=z.l+c;lia,a3,by show z.l+c<=c+d;lia,by show 0<z.l+c;lia],by show c<z.f+c;lia]
 show#[fun b m=>?_,Xz.mpr #[h.o,Cz.mpr (g.o.imp fun {x y} l=>by show x.l+c<y.f+c;lia),fun x mx y my=>?_],?_]
 ·walk_at "e"
  ·obtain⟨a1,a2,a3,a4,-⟩:=h.b b m;show#[a1,a2,a3,by lia,by lia]
  ·exact(hy b m).1
 ·have:=(hy y my).2;have:=(h.b x mx).2.2.2.1;lia
 ·rw[Ig,<-um];refine Xn (fun x m=>?_) (Mf g.m) h.m;rw[um]at m;have:=(hy x (uo.mp m)).1.2.2.1;lia
theorem asi:∀{bs:List WN.Box}{a:Int},(∀b∈bs,a<b.f/\Bo (c-k) c b)->bs.Pairwise (fun x y=>x.l<y.f)->Pl c k a bs
 |[],_,_,_=>trivial
 |b::_,_,h,o=>by
  obtain⟨h1,h2⟩:=h b bY;obtain⟨o1,o2⟩:=fW.mp o;show#[h1,h2.2.1,h2.2.2.1,h2.2.2.2.1,h2.2.2.2.2,asi (fun x m=>#[o1 x m,(h x (cF _ m)).2]) o2]
theorem asj:∀{os:List WN.Box}{S:Int}{b:WN.Box},WN.Multi r (S+b.s) os->WN.Aa r S (b::os)->Su r (S+b.s) b.s os
 |[],_,_,_,_=>trivial
 |o::os,S,b,m,n=>by
  show#[?_,by have:=n.1;rw[Int.add_comm o.s];lia,asj m.2 n.2];by_cases z:o.f=o.l
  ·exact .inl z
  ·exact .inr (m.1 z)
theorem Wo.su(h:Wo r e c bs)(r1:1<=r):Su r 0 0 bs.reverse:=by
 have hb:∀x∈bs.reverse,1<=x.s:=fun x m=>(h.p.b x (uo.mp m)).2.2.1;have hm:=h.p.m;have hn:=h.n;generalize bs.reverse=cs at hb hm hn;cases cs with
 |nil=>trivial
 |cons b os =>
  show#[?_,?_,asj hm.2 hn]
  ·by_cases z:b.f=b.l
   ·exact .inl z
   ·exact .inr (hm.1 z)
  ·have:=aeL (hb b bY) r1 tb_g% (by have:=hb b bY;lia);rw[alD];lia
structure Ws(x:KS):Prop where
 c0:0<=x.wi.c
 w:Wo x.room (x.wi.c-x.reach) x.wi.c (bx x.wi.ps)
theorem Ws.row{r:R3}(h:Ws x)(ok:r.ok)(s:SR r x x'):Ws x':=by
 have w1:=ok.w1;have c0:=h.c0;have b:=s.sb;have key:∀{c:Int}{bs:List WN.Box},WS x.room x.reach c bs x'.wi->0<=c->Wp x.room 0 c bs\/Wp x.room (x.wi.c-x.reach) c bs->Ws x':=fun {c bs} w z p=>by
  show#[by rwa[w.1],?_];rw[b.room,b.reach,w.2,w.1];exact p.elim (fun p=>p.settle tb_g%) fun p=>p.settle tb_g%
 unfold SR at s;split at s
 ·exact key s.wi tb_g% (.inl (h.w.p.snoc c0 w1))
 ·split at s
  ·exact key s.wi tb_g% (.inr (h.w.p.le tb_g%))
  ·exact key s.wi tb_g% (.inr (h.w.p.le tb_g%))
theorem Ws.z7(h:Ws x)(g:Ws y)(er:y.room=x.room)(p:KP x y z):Ws z:=by
 have h0:=h.c0;have g0:=g.c0;have w:=p.wi;have gw:=g.w.p;rw[er]at gw;show#[by rw[w.1];lia,?_];rw[p.room,p.reach,w.2,w.1];exact(h.w.p.app gw h0 g0).settle tb_g%
theorem avP(h:∀z,a=some z->Th z)(g:∀z,b=some z->Th z)(e:lo2 a b=some z):Th z:=by
 cases b with
 |none =>
  cases a with
  |none=>cases e
  |some y=>exact h z e
 |some t=>exact ar3 h (g t rfl) e
theorem avQ(h:∀z,a=some z->Th z)(g:∀z,b=some z->Th z)(e:hi2 a b=some z):Th z:=by
 cases b with
 |none =>
  cases a with
  |none=>cases e
  |some y=>exact h z e
 |some t=>exact ar4 h (g t rfl) e
theorem OD{P:Int->Prop}(h:∀a∈l,∀z∈a,P z)(g:∀a∈m,∀z∈a,P z):∀a∈RG.join l m,∀z∈a,P z:=by
 intro a ma z mz;have d:∀{k:RG.Ls}{i:Nat},(∀a∈k,∀z∈a,P z)->∀z∈k.getD i [],P z:=fun {k i} hk z mz=>by
  rw[ug]at mz;cases e:k[i]? with
  |none=>rw[e]at mz;exact nomatch mz
  |some b=>rw[e]at mz;exact hk b (mv e) z mz
 unfold RG.join RG.uH at ma;obtain⟨i,_,rfl⟩:=dH.mp ma;unfold RG.jn at mz;rcases bH.mp (RG.mC.mp mz)with e|e
 ·exact d h z e
 ·exact d g z e
theorem Gu.z7(h:Gu f n)(h':Gu g m)(t0:0<=f.tt)(t1:0<=g.tt)(p:RP f g k)(q:Gr room k i)(few:i<=63):Gu k (n+m+1):=by
 have gl:=fJ q.g q.t tb_g%;show#[?_,fun z e=>avP h.mi h'.mi (p.mi ▸ e),fun z e=>avQ h.ma h'.ma (p.ma ▸ e),p.st.mem (OD h.ls h'.ls),by have:=p.st.mono.1;have:=h.t0;have:=h'.t0;lia,by have:=apk p.st;have:=h.tn;have:=h'.tn;have:=gl.1;lia];unfold Km;rw[p.tt,p.mi,p.ma];rcases h.km with⟨a1,a2,a3⟩|⟨a1,a,b,a2,a3⟩
 ·rw[a1,a2,a3,Y0];exact h'.km
 ·rw[a2,a3];refine .inr #[by lia,?_];cases g.mi <;> cases g.ma <;> show#[_,_,rfl,rfl]
theorem asl(p:FP room f g k)(h:∀k∈keys f.c,Th k)(h':∀k∈keys g.c,Th k):∀z∈keys k.c,Th z:=by
 obtain⟨cut,a,_⟩:=p;intro z m;have m2:z∈keys (kY f.c g.c):=by
  unfold eF at a;split at a
  ·rwa[a.2]at m
  ·rw[a.2]at m;exact wz m
 rcases(Bj ..).mp m2 with m3|m3
 ·exact h z m3
 ·exact h' z m3
theorem avR(h:∀z∈L4 q,z.natAbs<=n*10 ^ 40)(g:∀z∈L4 p,z.natAbs<=m*10 ^ 40):∀z∈L4 (addQ q p),z.natAbs<=(n+m+1)*10 ^ 40:=by
 intro z mz;have mz:z=q.a+p.a\/z=q.b+p.b\/z=q.c+p.c\/z=q.d+p.d:=by
  have:z∈[q.a+p.a,q.b+p.b,q.c+p.c,q.d+p.d]:=mz;simpa using this
 have e:∀{a b:Int},a∈L4 q->b∈L4 p->(a+b).natAbs<=(n+m+1)*10 ^ 40:=fun {a b} m1 m2=>by
  have h1:=h a m1;have h2:=g b m2;rw[YT,Nat.add_mul];generalize 10 ^ 40=B at h1 h2 ⊢;generalize n*B=C at h1 ⊢;generalize m*B=D at h2 ⊢;lia
 rcases mz with rfl|rfl|rfl|rfl <;> exact e (by simp[L4]) (by simp[L4])
theorem ajU(c:Int)(bs:List WN.Box):WN.sum (bs.map (shift c))=WN.sum bs:=by
 unfold WN.sum;rw[dB];rfl
theorem Nb.z7(p:KP x y z)(a:Alk x y i j)(h:Nb x n)(g:Nb y m):Nb z (n+m+1):=by
 have kz:=p.kh a;have c0:=h.c0;have c1:=h.c1;have d0:=g.c0;have d1:=g.c1;have e0:=h.dn0;have e1:=h.dn1;have f0:=g.dn0;have f1:=g.dn1;show#[by rw[p.reach];exact h.rc,by rw[p.span];exact h.sn,asl p.cm h.cm g.cm,asl p.wn h.wn g.wn,h.up.z7 g.up (by have:=a.kx.up.g.vl;lia) (by have:=a.ky.up.g.vl;lia) p.up kz.up kz.few,h.dn.z7 g.dn (by have:=a.kx.dn.g.vl;lia) (by have:=a.ky.dn.g.vl;lia) p.dn kz.dn kz.few,by rw[p.wi.1];lia,by rw[p.wi.1];lia,?_,by rw[p.di.1];lia,by rw[p.di.1];lia,p.di.2.2.le tb_g%,fun z m=>?_,by rw[p.ba];exact avR h.ba g.ba]
 ·rw[p.wi.2,p.wi.1];refine Wb.settled #[fun b mb=>?_,?_] _ _
  ·rcases bH.mp mb with mb|mb
   ·have:=h.wi.b b mb;lia
   ·k_dat (o,mo,dH.mp,mb) "z"
    have:=g.wi.b o mo;show#[?_,?_,?_,?_,this.2.2.2.2]
    ·show 0<=o.f+x.wi.c;lia
    ·show o.f+x.wi.c<=_;lia
    ·show 0<=o.l+x.wi.c;lia
    ·show o.l+x.wi.c<=_;lia
  ·have:=h.wi.s;have:=g.wi.s;rw[WN.sum_append,ajU];lia
 ·rw[p.di.2.1]at m;rcases aa6.mp m with m|m
  ·exact h.dc z m
  ·exact g.dc z m
structure Gv(f:Rs):Prop where
 t:f.tt=0->f.tn=0
 b:∀lo hi,f.mi=some lo->f.ma=some hi->lo<=hi/\∀l∈f.ls,∀z∈l,lo<=z/\z<=hi
theorem vf(k:Gr room f n)(h:f.tt=0):f.ls=[]:=asM fun z=>by
 have h1:=RG.aai k.g.fl z;have h2:=k.g.vl;have h3:0<2 ^ (f.ls.length-1):=Nat.pow_pos tb_g%;lia
theorem Gv.add{th w:Int}(h:Gv f)(km:Km f)(k:Gr room f n)(s:RS th w f g)(w1:1<=w):Gv g:=by
 have v:=k.g.vl;show#[fun z=>by rw[s.tt]at z;lia,fun lo hi e1 e2=>?_];rw[s.mi]at e1;rw[s.ma]at e2;rcases km with⟨z,m1,m2⟩|⟨_,a,b,m1,m2⟩
 ·rw[m1]at e1;rw[m2]at e2;obtain rfl:=bC e1;obtain rfl:=bC e2;show#[cC _,s.st.mem (P:=fun z=>th<=z/\z<=th) (RG.JQ th #[cC _,cC _] _ _ (by rw[vf k z];exact fun _ m=>nomatch m))]
 ·obtain⟨h1,h2⟩:=h.b a b m1 m2;rw[m1]at e1;rw[m2]at e2;obtain rfl:=bC e1;obtain rfl:=bC e2;show#[by lia,s.st.mem (P:=fun z=>min a th<=z/\z<=max b th) (RG.JQ th tb_g% _ _ fun l m z mz=>by have:=h2 l m z mz;lia)]
theorem Gv.z7(h:Gv f)(h':Gv g)(kf:Km f)(kg:Km g)(gf:Gr room f n)(gg:Gr apl g m)(p:RP f g k):Gv k:=by
 have v1:=gf.g.vl;have v2:=gg.g.vl;show#[fun z=>?_,fun lo hi e1 e2=>?_]
 ·rw[p.tt]at z;have st:=p.st;rw[vf gf tb_g%,vf gg tb_g%,h.t tb_g%,h'.t tb_g%,show RG.join [] []=[]from rfl]at st;exact(st.uniq (.nil ..)).2.1.symm
 ·rw[p.mi]at e1;rw[p.ma]at e2;rcases kf with⟨z,m1,m2⟩|⟨_,a,b,m1,m2⟩
  ·rw[m1]at e1;rw[m2]at e2;have:=h'.b lo hi e1 e2;show#[this.1,p.st.mem (P:=fun z=>lo<=z/\z<=hi) (OD (by rw[vf gf z];exact fun _ m=>nomatch m) this.2)]
  ·obtain⟨h1,h2⟩:=h.b a b m1 m2;rw[m1]at e1;rw[m2]at e2;rcases kg with⟨z,m3,m4⟩|⟨_,c,d,m3,m4⟩
   ·rw[m3]at e1;rw[m4]at e2;obtain rfl:=bC e1;obtain rfl:=bC e2;show#[h1,p.st.mem (P:=fun z=>a<=z/\z<=b) (OD h2 (by rw[vf gg z];exact fun _ m=>nomatch m))]
   ·obtain⟨h3,h4⟩:=h'.b c d m3 m4;rw[m3]at e1;rw[m4]at e2;obtain rfl:=bC e1;obtain rfl:=bC e2;show#[by lia,p.st.mem (P:=fun z=>min a c<=z/\z<=max b d) (OD (fun l m z mz=>by have:=h2 l m z mz;lia) fun l m z mz=>by have:=h4 l m z mz;lia)]
theorem Th.ten(h:Th z):0<=z/\z<10 ^ 60:=#[h.1,Int.lt_trans h.2 tb_g%]
theorem Gu.rl(u:Gu f m)(fm:m<=1000)(g:Gr room f n)(few:n<=63)(v:Gv f):Rl f:=by
 have gl:=fJ g.g g.t few;have r2:=g.g.r2;have r64:=g.g.r64;have vl:=g.g.vl;have o0:=g.g.ov0;have u0:=g.g.un0;have zz:f.tt=0->f.ls=[]/\f.ov=0/\f.un=0/\f.tn=0:=fun z=>by
  have e:=vf g z;have pt:=g.g.pt;rw[e]at pt;have h2:(f.ov+f.un)*f.r<=0:=pt;have h3:(f.ov+f.un)*2<=(f.ov+f.un)*f.r:=Qd r2 tb_g%;show#[e,by lia,by lia,v.t z]
 show#[fun z mz=>(u.nums fm g few z mz).ten,fun l ml=>#[fun z mz=>(u.ls l ml z mz).ten,by have:=g.g.small l ml;lia],fun z=>?_,?_,zz,fun z=>?_,vl,by have:=gl.1;lia,fun l ml=>#[g.g.sm l ml,?_,g.g.sd l ml],?_,by lia,r64]
 ·rcases u.km with⟨_,a,b⟩|⟨a,_⟩
  ·show#[a,b]
  ·exact mM z a
 ·unfold rT;have:=T8 g.g.small;have:(rN f).length<=6:=by
   unfold rN;cases f.mi <;> cases f.ma <;> (show _<=6;simp)
  rw[cu,aD];have:=gl.1;lia
 ·rcases u.km with⟨a,_⟩|⟨_,lo,hi,m1,m2⟩
  ·exact mM a z
  ·obtain⟨b1,b2⟩:=v.b lo hi m1 m2;show#[fun e=>?_,g.g.fl,lo,hi,m1,m2,b1,(u.ma hi m2).2,b2];rw[e]at vl;exact z vl.symm
 ·have e:=g.r;have:=g.g.sm l ml;rcases g.sm with h|h
  ·lia
  ·have:=h l ml;lia
 ·by_cases z:f.tt=0
  ·exact .inr z
  ·refine .inl (g.g.near fun e=>z ?_);rw[e]at vl;exact vl.symm
theorem dz{z j:Int}(z0:0<=z)(z1:z<1152921504606846976)(e:z=1152921504606846976*j):z=0:=by lia
theorem up60{C:List Int}(nd:C.Nodup)(h:∀z∈C,Th z):(up 60 C).length<=1:=by
 have a:∀z∈up 60 C,z=0:=fun z m=>by
  obtain⟨m1,m2⟩:=pG.mp m;have hz:=h z m1;have m2:60<=mkOf z:=mS m2;obtain⟨k,mk⟩:=Ov z;have e:=mk_eq mk;rcases mk with⟨r,_⟩|mk
  ·have d:(1152921504606846976:Int) ∣ z*(770093176312745717*556681644477181277):=by
    rw[<-Ds];exact alC (Int.dvd_of_emod_eq_zero r) (aly _ _)
   rw[show(770093176312745717*556681644477181277:Int)=1+1152921504606846976*371835145825147308 from rfl,Y4,aeN]at d;obtain⟨j,e⟩:=(Int.dvd_add_left (alC (aly _ _) (Int.dvd_mul_left z _))).mp d;exact dz hz.1 hz.2 e
  ·have:=mk.lt (sS _ tb_g%) (sO _ tb_g%);lia
 have n:=adq (v:=60) nd;generalize up 60 C=l at a n
 match l with
 |[]=>exact cg _
 |[_]=>exact aK _
 |x::y::_=>exact mM ((a x bY).trans (a y (cF _ bY)).symm) fun e=>(iu.mp n).1 (e ▸ bY)
theorem oO.sixty(h:oO r v C)(r1:1<=r)(nd:C.Nodup)(th:∀z∈C,Th z):v<=60:=by
 have:=h.le tb_g%;rcases(show v<=60\/60<v by lia)with z|z
 ·exact z
 ·have:=h.2.2 60 tb_g% z;have:=up60 nd th;lia
structure Kz(x:KS):Prop where
 up:Gv x.up.x
 dn:Gv x.dn.x
 wi:Ws x
 nd:x.di.C.Nodup
 n:(x.di.C.length:Int)<=x.di.n
 rc:1<=x.reach/\x.reach<=1000000000
 sp:1<=x.span
theorem Kz.row{r:R3}{x x':KS}{n m:Nat}(h:Kz x)(k:Kh x n)(b:Nb x m)(ok:r.ok)(s:SR r x x'):Kz x':=by
 have w:=h.wi.row ok s;have w1:=ok.w1;have sb:=s.sb;have rc:1<=x'.reach/\x'.reach<=1000000000:=by rw[sb.reach];exact h.rc
 have sp:1<=x'.span:=by rw[sb.span];exact h.sp
 unfold SR at s;split at s
 ·show#[h.up.add b.up.km k.up s.up w1,by rw[s.dn];exact h.dn,w,by rw[s.di.2.1];exact ari h.nd,?_,rc,sp];rw[s.di.1,s.di.2.1];have:=(ade x.di.C r.th).2;have:=h.n;lia
 ·split at s
  ·show#[by rw[s.up];exact h.up,h.dn.add b.dn.km k.dn s.dn w1,w,by rw[s.di];exact h.nd,by rw[s.di];exact h.n,rc,sp]
  ·show#[by rw[s.up];exact h.up,by rw[s.dn];exact h.dn,w,by rw[s.di];exact h.nd,by rw[s.di];exact h.n,rc,sp]
theorem Kz.z7{x y z:KS}{n m i j:Nat}(h:Kz x)(g:Kz y)(a:Alk x y i j)(b:Nb x n)(d:Nb y m)(p:KP x y z):Kz z:=by
 show#[h.up.z7 g.up b.up.km d.up.km a.kx.up a.ky.up p.up,h.dn.z7 g.dn b.dn.km d.dn.km a.kx.dn a.ky.dn p.dn,h.wi.z7 g.wi a.room p,by rw[p.di.2.1];exact ar0 _ _,?_,by rw[p.reach];exact h.rc,by rw[p.span];exact h.sp];rw[p.di.1,p.di.2.1];have:=ape x.di.C y.di.C;have:=h.n;have:=g.n;lia
theorem Gf.sf(g:Gf room f n)(few:n<=63)(h:∀k∈keys f.c,Th k):Sf room f:=by
 obtain⟨W,ok⟩:=g.ok;have p:=cY f.c;show#[fun z m=>(g.nums few h z m).ten,?_,fun k m=>(h k ((uf p).mem_iff.mp m)).2,fun q m=>ok.pos q (p.mem_iff.mp m),by rw[p.length_eq];exact ok.len,by rw[Gi (ahe p)];exact ok.sum];have n1:(keys (eV f.c)).Nodup:=(uf p).nodup_iff.mpr ok.nd;have n2:(keys (eV f.c)).Pairwise (· <= ·):=Cz.mpr (Oz f.c);exact(n2.and n1).imp fun h=>by have:=h.1;have:=h.2;lia
theorem Kz.sd{x:KS}{n m:Nat}(h:Kz x)(k:Kh x n)(b:Nb x m)(fm:m<=1000):Sd x:=by
 have few:=k.few;have r2:=k.r2;have ur:=k.up.r;have ev:=k.up.g.ev;have sn:=b.sn;have c0:=h.wi.c0;have w:=h.wi.w;have lt:=b.dn1;have n1:(srt (My.up x.di.v x.di.C)).Nodup:=(fC _).nodup_iff.mpr (adq h.nd);have l1:=eG (My.up x.di.v x.di.C);have l2:∀v,(My.up v x.di.C).length<=x.di.C.length:=fun v=>xR _ _;have l3:=h.n;show#[b.kx fm k,#[by lia,r2,k.r64],h.rc,#[h.sp,sn.2],k.cm.sf few b.cm,k.wn.sf few b.wn,b.up.rl fm k.up few h.up,ur,b.dn.rl fm k.dn few h.dn,k.dn.r,fun z m=>(b.wins fm z m).ten,asi (fun o mo=>#[(w.p.b o mo).1,w.p.b o mo]) w.p.o,w.su tb_g%,fun z m=>(b.seen fm k z m).ten,k.dl.sixty tb_g% h.nd b.dc,((tM _).and n1).imp fun h=>by have:=h.1;have:=h.2;lia,fun z m=>?_,by rw[l1];exact k.dl.2.1,fun _=>?_,fun z=>?_,fun z m=>?_]
 ·obtain⟨m1,m2⟩:=pG.mp ((fC _).mem_iff.mp m);show#[(b.dc z m1).2,fun k mk=>by rw[mk_eq mk];exact mS m2]
 ·have:=l2 x.di.v;lia
 ·have v0:=k.dl.1;have:=k.dl.2.2 (x.di.v-1) tb_g% tb_g%;have:((My.up (x.di.v-1) x.di.C).length:Int)<=x.di.C.length:=by have:=l2 (x.di.v-1);lia
  lia
 ·exact oM (cW (b.ba z m) (Fw _ fm)) tb_g%
theorem Nb.eq(h:Nb y n)(e:Eqp x y):Nb x n:=by
 have gu:∀{f g:Rs},ER f g->Gu g n->Gu f n:=fun {f g} e1 g1=>#[by have:=g1.km;unfold Km at *; rwa[e1.tt,e1.mi,e1.ma],by rw[e1.mi];exact g1.mi,by rw[e1.ma];exact g1.ma,by rw[e1.ls];exact g1.ls,by rw[e1.tn];exact g1.t0,by rw[e1.tn];exact g1.tn];show#[by rw[e.reach];exact h.rc,by rw[e.span];exact h.sn,by rw[e.cm.c];exact h.cm,by rw[e.wn.c];exact h.wn,gu e.up h.up,gu e.dn h.dn,by rw[e.wi.c];exact h.c0,by rw[e.wi.c];exact h.c1,by rw[e.wi.c,e.wi.b];exact h.wi,by rw[e.di.n];exact h.dn0,by rw[e.di.n];exact h.dn1,by rw[e.di.v];exact h.dv,by rw[e.di.C];exact h.dc,by rw[e.ba];exact h.ba]
theorem Eqp.rf(x:KS):Eqp x x:=#[rfl,rfl,rfl,#[rfl,rfl,rfl],#[rfl,rfl,rfl],#[rfl,rfl,rfl,rfl,rfl,rfl,rfl,rfl],#[rfl,rfl,rfl,rfl,rfl,rfl,rfl,rfl],#[rfl,rfl],#[rfl,rfl,rfl],rfl]
theorem Eqp.sy(e:Eqp x y):Eqp y x:=(Eqp.rf y).by e
theorem Eqp.tr(a:Eqp x y)(b:Eqp y z):Eqp x z:=a.by b.sy
theorem Gf.srt(g:Gf room f n):Gf room { f with c:=eV f.c } n:=by
 obtain⟨W,ok⟩:=g.ok;have p:=cY f.c;have nd:(keys (eV f.c)).Nodup:=(uf p).nodup_iff.mpr ok.nd;show#[#[W,nd,fun q m=>ok.pos q (p.mem_iff.mp m),by rw[p.length_eq];exact ok.len,ok.l0,by rw[Gi (ahe p)];exact ok.sum,fun k=>by rw[HN nd p k];exact ok.lo k,fun k=>by rw[HN nd p k];exact ok.hi k],g.t,by rw[p.length_eq];exact g.k]
theorem Ws.eq(h:Ws y)(e:Eqp x y):Ws x:=#[by rw[e.wi.c];exact h.c0,by rw[e.room,e.reach,e.wi.c,e.wi.b];exact h.w]
theorem Kz.eq(h:Kz y)(e:Eqp x y):Kz x:=by
 have gv:∀{f g:Rs},ER f g->Gv g->Gv f:=fun {f g} e g=>#[by rw[e.tt,e.tn];exact g.t,by rw[e.mi,e.ma,e.ls];exact g.b];show#[gv e.up h.up,gv e.dn h.dn,h.wi.eq e,by rw[e.di.C];exact h.nd,by rw[e.di.C,e.di.n];exact h.n,by rw[e.reach];exact h.rc,by rw[e.span];exact h.sp]
structure Al(x:KS)(n m:Nat):Prop where
 kh:Kh x n
 nb:Nb x m
 kz:Kz x
theorem Al.eq(h:Al y n m)(e:Eqp x y):Al x n m:=#[h.kh.eq e,h.nb.eq e,h.kz.eq e]
theorem Al.nk(h:Al x n m):Nk x:=by
 obtain⟨_,o1⟩:=h.kh.cm.ok;obtain⟨_,o2⟩:=h.kh.wn.ok;show#[o1.nd,o2.nd]
theorem Al.rd(h:Al x n m):Al (rdK x) n m:=by
 have k:=h.kh;have b:=h.nb;have z:=h.kz;have t:∀{c:Tab},(∀k∈keys c,Th k)->∀k∈keys (eV c),Th k:=fun {c} h k m=>h k ((uf (cY c)).mem_iff.mp m);show#[#[k.r2,k.r64,k.rr,k.cm.srt,k.wn.srt,k.up,k.dn,k.wl,k.dl,k.dc,k.few],#[b.rc,b.sn,t b.cm,t b.wn,b.up,b.dn,b.c0,b.c1,b.wi,b.dn0,b.dn1,b.dv,b.dc,b.ba],#[z.up,z.dn,#[z.wi.c0,z.wi.w],z.nd,z.n,z.rc,z.sp]]
structure Sh(room:Nat)(reach span:Int):Prop where
 r2:2<=room
 r64:room<=64
 ev:room % 2=0
 rr:room<=15\/room=64
 rc:1<=reach/\reach<=1000000000
 sp:1<=span/\span<=1000000000
structure Is3(room:Nat)(reach span:Int)(x:KS):Prop where
 a:x.room=room
 b:x.reach=reach
 c:x.span=span
def Rc(room:Nat)(reach span:Int):List R3->KS->Prop
 |[],x=>Eqp x (K0 room reach span)
 |r::rs,x'=>∃x,Rc room reach span rs x/\SR r x x'
section
variable{room:Nat}{reach span:Int}
theorem Rc.uniq:∀{rs:List R3}{x y:KS},Rc room reach span rs x->Rc room reach span rs y->Eqp x y
 |[],_,_,h,g=>h.by g
 |_::_,_,_,h,g=>by
  obtain⟨a,h1,h2⟩:=h;obtain⟨b,g1,g2⟩:=g;exact(Rc.uniq h1 g1).row h2 g2
theorem Rc.al(s:Sh room reach span):∀{rs:List R3}{x:KS},Rc room reach span rs x->(∀r∈rs,r.ok)->rs.length<=63->Al x rs.length rs.length/\Is3 room reach span x
 |[],x,h,_,_=>by
  have rc:=s.rc;have sp:=s.sp;have k0:=kh0 reach span s.r2 s.r64 s.ev s.rr;have g0:Gv (R0 room):=⟨fun _=>rfl,fun _ _ e=>(nomatch e)⟩;have w0:Ws (K0 room reach span):=⟨cC _,⟨⟨fun _ m=>(nomatch m),List.Pairwise.nil,trivial⟩,trivial⟩⟩;exact⟨Al.eq ⟨k0,nb0 ⟨by lia,by lia⟩ ⟨⟨by lia,by lia⟩,sp.2⟩,⟨g0,g0,w0,rP,cC _,rc,sp.1⟩⟩ h,⟨h.room,h.reach,h.span⟩⟩
 |r::rs,x',h,ok,l=>by
  obtain⟨x,h1,h2⟩:=h;rw[cD]at l;obtain⟨a,i⟩:=Rc.al s h1 (fun q m=>ok q (cF _ m)) tb_g%;have o:=ok r bY;have k:=a.kh.row tb_g% o h2;have sb:=h2.sb;show#[#[k,a.nb.row a.kh k o h2,a.kz.row a.kh a.nb o h2],#[sb.room.trans i.a,sb.reach.trans i.b,sb.span.trans i.c]]
end
inductive Tre
 |lf (rs:List R3)
 |nd (a b:Tre)
def Tre.wt:Tre->Nat
 | .lf rs=>rs.length
 | .nd a b=>a.wt+b.wt
def Tre.mt:Tre->Nat
 | .lf rs=>rs.length
 | .nd a b=>a.mt+b.mt+1
def Mn(room:Nat)(reach span:Int):Tre->KS->Prop
 | .lf rs,x=>(∃y,Rc room reach span rs y/\Ep x y)/\Al x rs.length rs.length/\Is3 room reach span x
 | .nd a b,x=>(∃y z w,Mn room reach span a y/\Mn room reach span b z/\KP y z w/\Ep x w)/\Al x (a.wt+b.wt) (a.mt+b.mt+1)/\Is3 room reach span x
section
variable{room:Nat}{reach span:Int}
theorem Mn.al{t:Tre}{x:KS}(h:Mn room reach span t x):Al x t.wt t.mt/\Is3 room reach span x:=by
 cases t with
 |lf rs=>exact h.2
 |nd a b=>exact h.2
theorem Ep.sy(e:Ep x y):Ep y x:=Eqp.sy e
theorem Ep.tr(a:Ep x y)(b:Ep y z):Ep x z:=Eqp.tr a b
theorem Mn.uniq:∀{t:Tre}{x y:KS},Mn room reach span t x->Mn room reach span t y->Ep x y
 | .lf _,_,_,h,g=>by
  obtain⟨⟨a,h1,h2⟩,_⟩:=h;obtain⟨⟨b,g1,g2⟩,_⟩:=g;exact h2.tr ((h1.uniq g1).ep.tr g2.sy)
 | .nd _ _,_,_,h,g=>by
  obtain⟨⟨a,b,c,h1,h2,h3,h4⟩,_⟩:=h;obtain⟨⟨d,e,f,g1,g2,g3,g4⟩,_⟩:=g;exact h4.tr ((h3.ep g3 (Mn.uniq h1 g1) (Mn.uniq h2 g2) h1.al.1.nk h2.al.1.nk).tr g4.sy)
theorem Mn.read(h:Mn room reach span t x)(e:Eqp x' (rdK x)):Mn room reach span t x':=by
 have ep:=rd_ep h.al.1.nk e;have al:Al x' t.wt t.mt:=h.al.1.rd.eq e;have i:Is3 room reach span x':=#[e.room.trans h.al.2.a,e.reach.trans h.al.2.b,e.span.trans h.al.2.c];cases t with
 |lf rs =>
  obtain⟨⟨a,h1,h2⟩,_⟩:=h;show#[#[a,h1,ep.tr h2],al,i]
 |nd a b =>
  obtain⟨⟨a,b,c,h1,h2,h3,h4⟩,_⟩:=h;show#[#[a,b,c,h1,h2,h3,ep.tr h4],al,i]
theorem Mn.alk(h:Mn room reach span a x)(g:Mn room reach span b y)(l:a.wt+b.wt<=63):Alk x y a.wt b.wt:=by
 have h1:=h.al;have g1:=g.al;show#[g1.2.a.trans h1.2.a.symm,g1.2.b.trans h1.2.b.symm,g1.2.c.trans h1.2.c.symm,h1.1.kh,g1.1.kh,l,h1.1.kz.nd,g1.1.kz.nd]
theorem Mn.z7(h:Mn room reach span a x)(g:Mn room reach span b y)(l:a.wt+b.wt<=63)(p:KP x y z):Mn room reach span (.nd a b) z:=by
 have k:=h.alk g l;have h1:=h.al;have g1:=g.al;show#[#[x,y,z,h,g,p,(Eqp.rf z).ep],#[p.kh k,Nb.z7 p k h1.1.nb g1.1.nb,h1.1.kz.z7 g1.1.kz k h1.1.nb g1.1.nb p],#[p.room.trans h1.2.a,p.reach.trans h1.2.b,p.span.trans h1.2.c]]
end
theorem avS{c1 c2:TT}{t u:TS}{D:Ends}{σ:St}{H:Hp}{P1 P2:Prop}[Decidable P1][Decidable P2](h1:∀k:Bool->Hp->Prop,k (decide P1) H->c1 σ H k)(h2:∀k:Bool->Hp->Prop,k (decide P2) H->c2 σ H k)(ht:P1->P2->t D σ H)(hu:¬ (P1/\P2)->u D σ H):tIfS (tAnd c1 c2) t u D σ H:=by
 refine h1 _ ?_;by_cases a:P1
 ·rw[mI (mP a)];refine h2 _ ?_;by_cases b:P2
  ·rw[mI (mP b)];exact ht a b
  ·rw[mB (by rw[xj b];decide)];exact hu fun z=>b z.2
 ·rw[mB (by rw[xj a];decide)];show(if false=true then _ else _);rw[mB tb_g%];exact hu fun z=>a z.1
abbrev Pc2:=List (List R3) × List R3
def Fp(p:Pc2)(c:Int):Pc2:=if c / 7 % 6=0/\p.1.length+1<12 then(p.1++[p.2],[])else p
def mj(p:Pc2)(c:Int):Pc2:=((Fp p c).1,(Fp p c).2++[apb (c / 42)])
def pcs(ns:List Int):Pc2:=ns.foldl mj ([],[])
abbrev Pg:=Addr × List (Addr × R3)
def Pg.rows(g:Pg):List R3:=g.2.map (·.2)
structure Pw(H J:Hp)(P:Addr)(gs:List Pg)(d:Addr)(cur:List (Addr × R3)):Prop where
 s:Same H J
 g:J P=some (.lst ((gs++[(d,cur)]).map fun g=>V.ref g.1))
 e:∀g∈gs++[(d,cur)],J g.1=some (.lst (g.2.map fun r=>V.ref r.1))/\g.1≠P
 t:∀g∈gs++[(d,cur)],∀r∈g.2,J r.1=some (r3V r.2)
 n:∀g∈gs,g.1≠d
 f:H d=none
 p:H P=none
 a:∀g∈gs++[(d,cur)],H g.1=none
def spPcs(K:aH):Sp:=fun vs H Q _=>Ex2 fun(a:Addr) (ns:List Int)=>uU (vs=[.ref a]) (SqL K H a (ns.map V.int)) (ns.length<=63) (∀(P:Addr)(gs:List Pg)(H':Hp),Same H H'->H' P=some (.lst (gs.map fun g=>V.ref g.1))->(∀g∈gs,H g.1=none/\H' g.1=some (.lst (g.2.map fun r=>V.ref r.1))/\∀r∈g.2,H' r.1=some (r3V r.2))->gs.map Pg.rows=(pcs ns).1++[(pcs ns).2]->gs.length<=12->Q (.ref P) H')
theorem adI(T:Tx K mg A):FnK P w base T.Ew CX0 4 (spPcs K):=by
 k_dat (T.Ew,T.Ew.ok,Lx) "f"
 ·obtain⟨a,ns,rfl,ha,hn,q⟩:=h;show#[_,by k_dat ([dO],[Lx.nd,aB (ado T) ?_],[]) "p",?_];show#[tb_g%,fun D hD=>#[tb_g%,fun P hP=>?_]];have s1:=Same.new (o:=.lst []) hD;have d1:(upd H D (.lst [])) D=some (.lst []):=aj;generalize upd H D (.lst [])=H1 at s1 d1 hP ⊢
  k_dat lqg "c"
  have nP:H P=none:=s1.free hP;have ne:D≠P:=ak d1 hP
  k_dat (nwA hP,H2,zH2,fH2) "n"
  have P0:Pw H H2 P [] D []:=⟨s1.trans zH2,fH2,fun g m=>by rw[bO.mp m];exact⟨zH2 _ _ d1,ne⟩,fun g m=>by rw[bO.mp m];exact fun _ z=>(nomatch z),(fun g m=>nomatch m),hD,nP,fun g m=>by rwa[bO.mp m]⟩;refine⟨_,rfl,a,rfl,⟨_,P0.s.seq ha⟩,jX (K:=K) (a:=a) (xs:=ns.map V.int) (fun i σ J=>Ex4 fun(y:Option V) (gs:List Pg) (d:Addr) (cur:List (Addr × R3))=>uV (σ=[some (.ref a),some (.ref P),y]) (Pw H J P gs d cur) ((gs.map Pg.rows,cur.map (·.2))=(ns.take i).foldl mj ([],[])) (cur.length<=i) (gs.length<=11)) ⟨none,[],D,[],rfl,P0,rfl,aK _,by decide⟩ (fun i σ J _ h=>by obtain⟨_,_,_,_,_,P,_⟩:=h;exact P.s.seq ha) ?_ ?_⟩
  ·rintro i v σ J hi ⟨y,gs,d,cur,rfl,W,e,l1,l2⟩;rw[cP,lB]at hi;obtain⟨c,hi,rfl⟩:=hi;have li:i<ns.length:=(dI.mp hi).1;have en:(ns.take (i+1)).foldl mj ([],[])=mj (gs.map Pg.rows,cur.map (·.2)) c:=by
    rw[jg,hi,XS,<-e];rfl
   rw[en];clear en e;apply share (fun J'=>∃gs' d' cur',Pw H J' P gs' d' cur'/\(gs'.map Pg.rows,cur'.map (·.2))=Fp (gs.map Pg.rows,cur.map (·.2)) c/\cur'.length<=i/\gs'.length<=11)
   ·intro key;refine avS (P1:=V.int (c / 7 % 6)=V.int 0) (P2:=(((gs++[(d,cur)]).map fun g=>V.ref g.1).length:Int)<12) (fun k hk=>#[_,rfl,_,_,rfl,rfl,#[tb_g%,tb_g%],_,_,rfl,rfl,(by show(0:Int)<6;decide),rfl,_,rfl,hk]) (fun k hk=>#[_,rfl,cM (.inl (.inl W.g)) #[_,_,rfl,rfl,_,rfl,hk]]) (fun c1 c2=>?_) (fun c3=>?_);rotate_left
    ·refine key J #[gs,d,cur,W,?_,l1,l2];unfold Fp;rw[mB fun z=>c3 #[mN V.int z.1,?_]];have:=z.2;rw[aD]at this;rw[aD,cu];show((gs.length+1:Nat):Int)<12;lia
    ·k_dat ld "c"
     have c1:=V.int.inj c1;have lg:gs.length+1<12:=by
      rw[aD,cu]at c2;have c2:((gs.length+1:Nat):Int)<12:=c2;lia
     show#[_,rfl,.inl #[rfl,_,.inl (.inl W.g)],tb_g%,fun D2 hD2=>?_];have s2:=Same.new (o:=.lst []) hD2;show#[P,_,_,rfl,rfl,s2 _ _ W.g,aJ (by rw[aD,cu];show gs.length+1<=1000;lia),?_];have nD2:D2≠P:=aL (ak W.g hD2);refine key _ #[gs++[(d,cur)],D2,[],#[fun b o e=>by rw[ao (ak e W.p)];exact s2 _ _ (W.s b o e),by rw[aj,aR (l₁:=gs++[(d,cur)]) (l₂:=[(D2,[])])];rfl,fun g m=>?_,fun g m r mr=>?_,fun g m=>ak (W.e g m).1 hD2,W.s.free hD2,W.p,fun g m=>?_],?_,cg _,by rw[cu];show gs.length+1<=11;lia]
     ·walk_at "e"
      ·have:=W.e g m;show#[by rw[ao this.2];exact s2 _ _ this.1,this.2]
      ·rw[bO.mp m];show#[by rw[ao nD2];exact aj,nD2]
     ·walk_at "e"
      ·have:=W.t g m r mr;rw[ao (fP this W.g (by unfold r3V;intro z;cases z))];exact s2 _ _ this
      ·rw[bO.mp m]at mr;exact nomatch mr
     ·walk_at "e"
      ·exact W.a g m
      ·rw[bO.mp m];exact W.s.free hD2
     ·unfold Fp;rw[mI #[c1,by rwa[aD]],aR];rfl
   ·rintro J' ⟨gs',d',cur',W',e',l1',l2'⟩;have ml:(d',cur')∈gs'++[(d',cur')]:=oG _ bY;have dJ:=(W'.e _ ml).1;have dP:d'≠P:=(W'.e _ ml).2;have la:atI ((gs'++[(d',cur')]).map fun d=>V.ref d.1) (-1)=some (.ref d'):=by
     unfold atI ixN;rw[aD,cu,mB tb_g%,mI (by show -((gs'.length+1:Nat):Int) <= -1;lia)];show((gs'++[(d',cur')]).map fun d=>V.ref d.1)[((-1:Int)+((gs'.length+1:Nat):Int)).toNat]? = _;rw[show((-1:Int)+((gs'.length+1:Nat):Int)).toNat=gs'.length by lia,cP,Ft (aK _),Jh];rfl
    show#[_,rfl,_,rfl,dF (.inl (.inl W'.g)) (v:=.ref d') la #[.inl #[rfl,_,.inl (.inl dJ)],?_]];show#[_,rfl,_,_,rfl,rfl,#[tb_g%,tb_g%],c / 42,rfl,fun t J2 nt jt s2=>?_];show#[d',_,_,rfl,rfl,s2 _ _ dJ,aJ (by rw[aD];show cur'.length<=1000;lia),?_];show#[_,gs',d',cur'++[(t,apb (c / 42))],rfl,#[fun b o e=>by rw[ao (ak e W'.f)];exact s2 _ _ (W'.s b o e),?_,fun g m=>?_,fun g m r mr=>?_,W'.n,W'.f,W'.p,fun g m=>?_],?_,by rw[cu];show cur'.length+1<=i+1;lia,l2']
    ·rw[ao (aL dP)];have:=s2 _ _ W'.g;rw[aR]at this ⊢;exact this
    ·walk_at "e"
     ·have:=W'.e g (yP _ m);show#[by rw[ao (W'.n g m)];exact s2 _ _ this.1,this.2]
     ·rw[bO.mp m];show#[by rw[aj,aR];rfl,dP]
    ·have k:J2 r.1=some (r3V r.2):=by
      walk_at "e"
      ·exact s2 _ _ (W'.t g (yP _ m) r mr)
      ·rw[bO.mp m]at mr;rcases bH.mp mr with mr|mr
       ·exact s2 _ _ (W'.t _ ml r mr)
       ·rwa[bO.mp mr]
     rwa[ao (fP k (s2 _ _ dJ) (by unfold r3V;intro z;cases z))]
    ·walk_at "e"
     ·exact W'.a g (yP _ m)
     ·rw[bO.mp m];exact W'.f
    ·unfold mj;rw[<-e',aR];rfl
  ·rintro σ J ⟨y,gs,d,cur,rfl,W,e,_,l2⟩;rw[aD,jC]at e;show#[_,rfl,q P (gs++[(d,cur)]) J W.s W.g (fun g m=>#[W.a g m,(W.e g m).1,W.t g m]) ?_ (by rw[cu];show gs.length+1<=12;lia)];rw[aR];unfold pcs;rw[<-e];rfl
theorem aiy{x:KS}:b∈x.all↔b=x.k\/b∈x.pts:=by unfold KS.all KS.pts;exact aP
theorem SB.all(h:SB x x'):x'.all=x.all:=by
 have:x'.k::x'.pts=x.k::x.pts:=by rw[h.k,h.pts]
 exact this
theorem Kp.live{A:Ad}(h:Kp A H x):∀b∈x.all,∃C e fs,H b=some (.ins C e fs):=by
 intro b m;unfold KS.all at m;simp only[aP,jc,or_false]at m;rcases m with rfl|rfl|rfl|rfl|rfl|rfl|rfl|rfl
 ·show#[_,_,_,h.o]
 ·show#[_,_,_,h.cm.o]
 ·show#[_,_,_,h.wn.o]
 ·show#[_,_,_,h.up.o]
 ·show#[_,_,_,h.dn.o]
 ·show#[_,_,_,h.wi.o]
 ·show#[_,_,_,h.di.o]
 ·show#[_,_,_,h.ba.o]
theorem Kp.chg{A:Ad}{H:Hp}{x:KS}(h:Kp A H x){L:Addr}{as:List Addr}{o:HO}(hL:H L=some (.lst (as.map V.ref)))(n:L∉x.ems):Kp A (L2.upd H L o) x:=by
 unfold KS.ems at n;simp only[aP,bH,not_or]at n;obtain⟨n1,n2,n3,n4,n5,n6⟩:=n;have kI:∀{b C e:Addr} {fs:List (Str × V)},H b=some (.ins C e fs)->(L2.upd H L o) b=some (.ins C e fs):=fun e=>by rwa[ao (fP e hL (by intro z;cases z))]
 have kD:∀{b:Addr} {kv:List (Key × V)},H b=some (.dK kv)->(L2.upd H L o) b=some (.dK kv):=fun e=>by rwa[ao (fP e hL (by intro z;cases z))]
 have kT:∀{b:Addr}{vs:List V},H b=some (.tup vs)->(L2.upd H L o) b=some (.tup vs):=fun e=>by rwa[ao (fP e hL (by intro z;cases z))]
 have kL:∀{b:Addr}{vs:List V},L≠b->H b=some (.lst vs)->(L2.upd H L o) b=some (.lst vs):=fun m e=>by rwa[ao (aL m)]
 have rl:∀{p:Addr}{y:Rs},L≠y.a->L∉y.bs->RnX A H p y->RnX A (L2.upd H L o) p y:=fun {p y} m1 m2 R=>#[kI R.o,kL m1 R.l.o,R.l.n,fun i b l e1 e2=>kL (fun z=>m2 (by rw[z];exact mv e1)) (R.l.e i b l e1 e2),R.l.x];show#[kI h.o,#[kI h.cm.o,kD h.cm.d],#[kI h.wn.o,kD h.wn.d],rl n1 n5 h.up,rl n2 n6 h.dn,#[kI h.wi.o,kL n3 h.wi.b.l,fun z m=>kT (h.wi.b.t z m)],#[kI h.di.o,kL n4 h.di.l],#[kI h.ba.o,kL (fun z=>?_) h.ba.l],h.nd];have e:=h.ba.l;rw[<-z,hL]at e;cases as with
 |nil=>cases e
 |cons a r=>cases e
def arB(A:Ad):Sp:=fun vs H Q _=>Ex6 fun x t room reach span b=>uV (vs=[.ref x.k,.int b]) (Kp A H x) (Mn room reach span t x) (t.mt<=1000) (∀x' H',Kp A H' x'->Mn room reach span t x'->(x'=x\/∀c∈x'.ems,H c=none)->Same H H'->Q (.ref x'.k) H')
theorem ahf(T:Tx K mg A):FnK P w base T.Kq CX0 12 (arB A):=by
 k_dat (T.Kq,T.Kq.ok,agX) "f"
 ·obtain⟨x,t,room,reach,span,b,rfl,hx,mn,m1,q⟩:=h;have al:=mn.al.1;show#[_,by k_dat ([],[aB (Ua T) ?_,aB (KZ T) ?_],[]) "p",?_]
  k_dat (2,h) "o"
  ·show#[_,rfl,x,rfl,hx,al.nb.kx m1 al.kh,fun H1 s1=>#[x,rfl,al.kz.sd al.kh al.nb m1,fun x' H2 k2 e2 f2 n2 s2=>?_]];exact q x' H2 k2 (mn.read e2) (.inr fun c m=>s1.free (n2 c m)) (s1.trans s2)
  ·show#[_,rfl,q x H hx mn (.inl rfl) (Same.refl H)]
abbrev Kt:=KS × Tre
structure Lk(A:Ad)(room:Nat)(reach span:Int)(H0 G:Hp)(L:Addr)(ps:List Kt):Prop where
 s:Same H0 G
 f:H0 L=none
 l:G L=some (.lst (ps.map fun p=>V.ref p.1.k))
 k:∀p∈ps,Kp A G p.1/\L∉p.1.ems/\Mn room reach span p.2 p.1
section
variable{A:Ad}{room:Nat}{reach span:Int}{H0 G G':Hp}{L:Addr}{ps ps':List Kt}
theorem Lk.grow(h:Lk A room reach span H0 G L ps)(s:Same G G'):Lk A room reach span H0 G' L ps:=#[h.s.trans s,h.f,s _ _ h.l,fun p m=>#[(h.k p m).1.same s,(h.k p m).2]]
theorem Lk.chg(h:Lk A room reach span H0 G L ps)(a:∀p∈ps',Kp A G p.1/\L∉p.1.ems/\Mn room reach span p.2 p.1):Lk A room reach span H0 (upd G L (.lst (ps'.map fun p=>V.ref p.1.k))) L ps':=by
 show#[fun b o e=>by rw[ao (ak e h.f)];exact h.s b o e,h.f,aj,fun p m=>#[(a p m).1.chg (as:=ps.map fun p=>p.1.k) ?_ (a p m).2.1,(a p m).2]];rw[dB];exact h.l
end
theorem abq:∀(ns:List Int)(p:Pc2),(((ns.foldl mj p).1.map fX).sum+(ns.foldl mj p).2.length)=(p.1.map fX).sum+p.2.length+ns.length
 |[],_=>rfl
 |c::ns,p=>by
  rw[CJ,abq ns,cD];have:((mj p c).1.map fX).sum+(mj p c).2.length=(p.1.map fX).sum+p.2.length+1:=by
   unfold mj Fp;split
   ·simp
   ·simp;lia
  lia
theorem apB:∀(ns:List Int)(p:Pc2),(∀rs∈p.1++[p.2],∀r∈rs,r.ok)->∀rs∈(ns.foldl mj p).1++[(ns.foldl mj p).2],∀r∈rs,r.ok
 |[],_,h=>h
 |c::ns,p,h=>by
  rw[CJ];refine apB ns _ ?_;unfold mj Fp;intro rs m r mr;split at m
  ·walk_at "e"
   ·exact h rs m r mr
   ·rw[bO.mp m]at mr;have mr:r∈[apb (c / 42)]:=mr;rw[bO.mp mr];exact aio _
  ·walk_at "e"
   ·exact h rs (yP _ m) r mr
   ·rw[bO.mp m]at mr;rcases bH.mp mr with mr|mr
    ·exact h p.2 (oG _ bY) r mr
    ·rw[bO.mp mr];exact aio _
def lfs(ns:List Int):List Tre:=((pcs ns).1++[(pcs ns).2]).map fun rs=>.lf rs.reverse
def stp(p:Int × List Tre):Int × List Tre:=
 ((p.1+p.2.length)*48271 % 2147483647,(p.2.eraseIdx (((p.1+p.2.length)*48271 % 2147483647 % ((p.2.length:Int)-1)).toNat+1)).set ((p.1+p.2.length)*48271 % 2147483647 % ((p.2.length:Int)-1)).toNat
  (.nd (p.2.getD ((p.1+p.2.length)*48271 % 2147483647 % ((p.2.length:Int)-1)).toNat (.lf [])) (p.2.getD (((p.1+p.2.length)*48271 % 2147483647 % ((p.2.length:Int)-1)).toNat+1) (.lf []))))
def runK:Nat->Int × List Tre->Int × List Tre
 |0,p=>p
 |k+1,p=>stp (runK k p)
def tOf(c:Int)(ns:List Int):Tre:=(runK ((lfs ns).length-1) (c,lfs ns)).2.headD (.lf [])
theorem lfs_w(ns:List Int):((lfs ns).map Tre.wt).sum=ns.length:=by
 have:=abq ns ([],[]);have e:((lfs ns).map Tre.wt)=((pcs ns).1++[(pcs ns).2]).map fX:=by
  unfold lfs;rw[dB];exact xU fun rs _=>oH
 rw[e,aR,XQ];show _+((pcs ns).2.length+0)=_;unfold pcs;rw[show((([],[]):Pc2).1.map fX).sum+(([],[]):Pc2).2.length=0 from rfl]at this;lia
def apC(j:Nat)(σ:St)(H:Hp):Nat:=match σ[j]? with
 | some (some (.ref p))=>(match H p with
  |some (.lst xs)=>xs.length
  | _=>0)
 |_=>0
theorem adJ(h:σ[j]? = some (some (.ref p)))(e:H p=some (.lst xs)):apC j σ H=xs.length:=by
 unfold apC;rw[h];show(match H p with|some (.lst xs)=>xs.length|_=>0)=_;rw[e]
theorem Ui{α β:Type}(f:α->β):∀(l:List α)(j:Nat),(l.map f).eraseIdx j=(l.eraseIdx j).map f
 |[],_=>rfl
 |_::_,0=>rfl
 |a::l,j+1=>mN (f a :: ·) (Ui f l j)
theorem avT{α:Type}{l:List α}(h:j+1<l.length):∃as x y bs,l=as++x::y::bs/\as.length=j:=
 #[l.take j,l[j],l[j+1],l.drop (j+2),by rw[<-K8,<-K8,Xw],by rw[eX];lia]
theorem avU{α:Type}(as:List α)(x y z:α)(bs:List α):((as++x::y::bs).eraseIdx (as.length+1)).set as.length z=as++z::bs:=by
 rw[aj4 tb_g%,show as.length+1-as.length=1 by lia];show(as++x::bs).set as.length z=_;rw[akf _ _ (aK _),Jh];rfl
theorem aiz:∀{l:List Nat}{a:Nat},a∈l->a<=l.sum
 |b::l,a,m=>by
  rw[gH]
  walk_at "m"
  ·lia
  ·have:=aiz m;lia
noncomputable def Xo(ns:List Int):Int:=(Qq (Ab ns (some (-1)) none)).sum*40692 % 2147483579
def avV(A:Ad)(K:aH):Sp:=fun vs H Q _=>Ex7 fun(a s:Addr) (ns:List Int) (room:Nat) (reach span b:Int)=>Nr (vs=[.ref a,.ref s,.int b]) (SqL K H a (ns.map V.int)) (ns.length<=63) (H s=some (.tup [.int room,.int reach,.int span])) (Sh room reach span) ((b=0\/b=1)) (∀(x:KS)(H':Hp),Kp A H' x->Mn room reach span (tOf (Xo ns) ns) x->(tOf (Xo ns) ns).mt<=1000->Same H H'->Q (.ref x.k) H')
theorem abr(T:Tx K mg A):FnK P w base T.Ao CX0 13 (avV A K):=by
 k_dat (T.Ao,T.Ao.ok,Hq) "f"
 ·obtain⟨a,t,ns,room,reach,span,bit,rfl,ha,hn,ht,sh,hb,q⟩:=h;show#[_,by k_dat ([dO],[Hq.nd,dj (JT rfl) (by rfl) T.aoQ ae0 ?_,aB (adn T) ?_,aB (adI T) ?_,f9 T.abF T.En (lZ T) ?_,aB (ajL T) ?_,aB (ahf T) ?_,yd Qp PySem.F.slot_list_pop PySem.F.type_list_pop ang ?_ ?_,aB (ajO T) ?_],[]) "p",?_];have ecs:=(afl (Ab ns (some (-1)) none)).1;have lc:Xo ns=(Qq (Ab ns (some (-1)) none)).sum*40692 % 2147483579:=rfl;generalize Qq (Ab ns (some (-1)) none)=cs at ecs lc;show#[_,rfl,_,rfl,_,rfl,a,_,rfl,ha,fun z hz=>?_];rw[ecs];show#[z,_,rfl,.inl (.inl aj),?_]
  k_dat (nwA hz,H0,s0,fH0) "n"
  show#[_,40692,2147483579,rfl,tb_g%,tb_g%,tb_g%,?_];rw[<-lc];have c0:0<=Xo ns/\Xo ns<2147483579:=by rw[lc];show#[sS _ tb_g%,sO _ tb_g%]
  generalize Xo ns=cell at q c0 lc ⊢;clear lc ecs hz
  k_dat lrg "c"
  show#[tb_g%,fun L hL=>?_]
  k_dat (nwA hL,H1,sL,gL) "n"
  k_dat lrg "c"
  show#[_,rfl,a,ns,rfl,(s0.trans sL).seq ha,hn,fun P gs H2 s2 gP ge ep l12=>?_];have ngs:gs≠[]:=fun z=>by
   rw[z]at ep;exact mM (mN fX ep) (by rw[cu];show ¬ 0=_+1;lia)
  have nPL:P≠L:=fun z=>by
   rw[z,s2 _ _ gL]at gP;cases gs with
   |nil=>exact ngs rfl
   |cons g r=>cases gP
  have K0:Lk A room reach span H0 H2 L []:=#[sL.trans s2,hL,s2 _ _ gL,fun _ m=>nomatch m];have ntL:t≠L:=ak (s0 _ _ ht) hL;have ht2:=s2 _ _ (sL _ _ (s0 _ _ ht));have lr:∀g∈gs,(∀r∈Pg.rows g,r.ok)/\(Pg.rows g).length<=63:=fun g m=>by
   have m:Pg.rows g∈(pcs ns).1++[(pcs ns).2]:=ep ▸ yQ m;show#[apB ns ([],[]) (fun rs m r mr=>?_) _ m,?_]
   ·rw[bO.mp m]at mr;exact nomatch mr
   ·have h1:=abq ns ([],[]);rw[show((([],[]):Pc2).1.map fX).sum+(([],[]):Pc2).2.length=0 from rfl]at h1;have h1:((pcs ns).1.map fX).sum+(pcs ns).2.length=0+ns.length:=h1
    walk_at "e"
    ·have:=aiz (yQ (f:=fX) m);lia
    ·rw[bO.mp m];lia
  show#[P,rfl,#[_,.inl (.inl gP)],jX (K:=K) (a:=P) (xs:=gs.map fun g=>V.ref g.1) (fun i σ G=>Ex4 fun(y5 y6 y7:Option V) (ps:List Kt)=>uU (σ=[some (.ref a),some (.ref t),some (.int bit),some (.int cell),some (.ref L),y5,y6,y7,none,none,none]) (Lk A room reach span H0 G L ps) (But L H2 G) (ps.map (·.2)=((gs.take i).map Pg.rows).map fun rs=>Tre.lf rs.reverse)) #[none,none,none,[],rfl,K0,(Same.refl H2).but L,rfl] (fun i σ G _ h=>by obtain⟨_,_,_,_,_,_,b,_⟩:=h;exact .inl (.inl (b _ _ gP nPL))) ?_ ?_]
  ·rintro i v σ G hi ⟨y5,y6,y7,ps,rfl,W,b,e⟩;rw[cP,lB]at hi;obtain⟨g,hi,rfl⟩:=hi;have mg:=mv hi;have lp:ps.length<=12:=by
    have:=mN fX e;rw[aD,aD,aD,eX]at this;lia
   obtain⟨n1,hg,hr⟩:=ge g mg;have hg:=b _ _ hg (aL (ak gL n1));have ht3:=b _ _ ht2 ntL;have hr:∀r∈g.2,G r.1=some (r3V r.2):=fun r m=>b _ _ (hr r m) (fP (hr r m) (s2 _ _ gL) (by unfold r3V;intro z;cases z));obtain⟨rok,rl⟩:=lr g mg;show#[_,rfl,jm (.inl (.inl ht3)) (v:=.int room) rfl #[_,rfl,jm (.inl (.inl ht3)) (v:=.int reach) rfl #[_,rfl,jm (.inl (.inl ht3)) (v:=.int span) rfl fun k dk n1 n2 n3=>#[k,dk,room,reach,span,rfl,aj,sh.r2,sh.r64,sh.ev,fun x G2 kx ex ek ag7 apw bt=>#[rfl,?_]]]]]
   k_dat lrg "c"
   have up2:Same G (upd (upd G dk (.own k)) k (.ins A.C'5 dk [])):=fun b o e=>by rwa[ao (ak e n1),ao (ak e n2)]
   have sG:Same G G2:=fun b o e=>bt b o (up2 b o e) (ak e n1);have fx:∀b∈x.all,G b=none:=fun b m=>by
    rcases aiy.mp m with z|z
    ·rwa[z,ek]
    ·exact up2.free (ag7 b z)
   have fe:∀b∈x.ems,G b=none:=fun b m=>up2.free (apw b m);rw[<-ek];show#[_,rfl,g.1,rfl,#[_,.inl (.inl (sG _ _ hg))],jX (K:=K) (a:=g.1) (xs:=g.2.map fun r=>V.ref r.1) (fun j σ J=>Ex2 fun(y7:Option V) (x:KS)=>KC (σ=[some (.ref a),some (.ref t),some (.int bit),some (.int cell),some (.ref L),some (.ref g.1),some (.ref x.k),y7,none,none,none]) (Kp A J x) (Same G J) ((∀b∈x.all,G b=none)) ((∀b∈x.ems,G b=none)) (Rc room reach span (((Pg.rows g).take j).reverse) x)) #[y7,x,rfl,kx,sG,fx,fe,ex] (fun j σ J _ h=>by obtain⟨_,_,_,_,s,_⟩:=h;exact .inl (.inl (s _ _ hg))) ?_ ?_]
   ·clear kx ex ek ag7 apw bt fx fe sG up2 n1 n2 n3;rintro j v σ J hj ⟨y7,x,rfl,kx,sJ,fx,fe,rc⟩;rw[cP,lB]at hj;obtain⟨r,hj,rfl⟩:=hj;have mr:=mv hj;have lj:j<g.2.length:=(dI.mp hj).1;have lg:(Pg.rows g).length=g.2.length:=aD _;have hj2:(Pg.rows g)[j]? = some r.2:=by unfold Pg.rows;rw[cP,hj];rfl
    have ro:r.2.ok:=rok _ (mv hj2);have al:=rc.al sh (fun q m=>rok q (adX (uo.mp m))) (by rw[oH,eX];lia);show#[_,rfl,_,rfl,x,_,r.1,r.2,rfl,kx,al.1.kh,by rw[oH,eX];lia,sJ _ _ (hr r mr),ro,fun x' J' kx' sr far em=>?_];have sb:=sr.sb;show#[_,x',by rw[sb.k];rfl,kx',fun b o e=>far.pb b o (sJ b o e) fun m=>?_,by rwa[sb.all],fun c m=>?_,?_]
    ·have:=fx b (aiy.mpr (.inr m));rw[e]at this;cases this
    ·rcases em c m with z|z
     ·exact fe c z
     ·exact sJ.free z
    ·rw[jg,hj2,Ig];show#[x,rc,sr]
   ·clear kx ex ek ag7 apw bt fx fe sG up2 n1 n2 n3;rintro σ J ⟨y7,x,rfl,kx,sJ,fx,fe,rc⟩;have lg:(Pg.rows g).length=g.2.length:=aD _;rw[aD,<-lg,jC]at rc;have al:=rc.al sh (fun q m=>rok q (uo.mp m)) (by rw[oH];exact rl);have mn:Mn room reach span (.lf (Pg.rows g).reverse) x:=#[#[x,rc,(Eqp.rf x).ep],al.1,al.2];have W2:=W.grow sJ;show#[_,rfl,.inl #[rfl,_,.inl (.inl W2.l)],?_];show#[_,rfl,_,rfl,_,rfl,cM (.inl (.inl W2.l)) #[_,_,rfl,rfl,_,_,rfl,rfl,#[?_,?_],_,rfl,_,_,rfl,rfl,dR tb_g% tb_g%,x,_,room,reach,span,_,rfl,kx,mn,?_,fun x' J2 kx' mn' fr s3=>?_]]
    ·show(0:Int)<1+((ps.map fun p=>V.ref p.1.k).length:Nat);lia
    ·show(1:Int)+((ps.map fun p=>V.ref p.1.k).length:Nat)<1073741824;rw[aD];lia
    ·show(Pg.rows g).reverse.length<=1000;rw[oH];lia
    have W3:=W2.grow s3;show#[L,_,_,rfl,rfl,W3.l,aJ (by rw[aD];lia),?_];have W4:=W3.chg (ps':=ps++[(x',.lf (Pg.rows g).reverse)]) fun p m=>by
     walk_at "e"
     ·exact W3.k p m
     ·rw[bO.mp m];show#[kx',fun z=>?_,mn'];rcases fr with rfl|fr
      ·have:=fe L z;rw[W.l]at this;cases this
      ·have:=fr L z;rw[W2.l]at this;cases this
    rw[aR]at W4;show#[_,_,_,_,rfl,W4,fun b' o e' n=>by rw[ao n];exact s3 _ _ (sJ _ _ (b b' o e' n)),?_];rw[jg,hi,aR,aR,aR,e];rfl
  ·rintro σ G ⟨y5,y6,y7,ps,rfl,W,b,e⟩;rw[aD,jC,ep]at e
   k_dat lrn "c"
   have e:ps.map (·.2)=lfs ns:=e;have ew:(ps.map fun p=>p.2.wt).sum<=63:=by
    have:=lfs_w ns;rw[<-e,dB]at this;have this:(ps.map fun p=>p.2.wt).sum=ns.length:=this;lia
   have em:(ps.map fun p=>p.2.mt).sum<=63:=by
    have h1:(ps.map (·.2)).map Tre.mt=(ps.map (·.2)).map Tre.wt:=by
     rw[e];unfold lfs;rw[dB,dB];rfl
    rw[dB,dB]at h1;have h1:(ps.map fun p=>p.2.mt)=ps.map fun p=>p.2.wt:=h1;rwa[h1]
   have pl:ps.length=(lfs ns).length:=by rw[<-e,aD]
   have lf1:(lfs ns).length=gs.length:=by unfold lfs;rw[<-ep,aD,aD]
   have g1:1<=gs.length:=XM.mpr ngs;refine uE (fun σ G=>Ex8 fun(c:Int) (n:Nat) (y5 y6 y7 y8 y9 y10:Option V)=>∃(ps:List Kt),Nr (σ=[some (.ref a),some (.ref t),some (.int bit),some (.int c),some (.ref L),y5,y6,y7,y8,y9,y10]) (Lk A room reach span H0 G L ps) ((c,ps.map (·.2))=runK n (cell,lfs ns)) (ps.length+n=(lfs ns).length) (1<=ps.length) ((ps.map fun p=>p.2.wt).sum<=63) ((ps.map fun p=>p.2.mt).sum+ps.length<=75)) (apC 4) #[cell,0,y5,y6,y7,none,none,none,ps,rfl,W,by rw[e];rfl,pl,by lia,ew,by lia] ?_
    (fun σ H Q Q' hq h=>lN (mD (Ro (iW (bW 4) uK)) (Ej _)) σ H Q Q' hq h)
   rintro σ G ⟨c,n,y5,y6,y7,y8,y9,y10,ps,rfl,W,e,pl,p1,ew,em⟩;have ll:((ps.map fun p=>V.ref p.1.k).length:Int)=(ps.length:Int):=by rw[aD]
   show#[_,rfl,cM (.inl (.inl W.l)) #[_,_,rfl,rfl,_,rfl,dh (fun h=>?_) (fun h=>?_)]]
   ·k_dat lrr "c"
    have h2:2<=ps.length:=by have:=mS h;lia
    show#[_,rfl,_,rfl,cM (.inl (.inl W.l)) #[_,_,rfl,rfl,_,48271,2147483647,rfl,tb_g%,tb_g%,tb_g%,?_]];show#[_,rfl,_,rfl,cM (.inl (.inl W.l)) #[_,_,rfl,rfl,_,_,rfl,rfl,(by show(0:Int)<((ps.map fun p=>V.ref p.1.k).length:Int)-1;lia),?_]];rw[ll]
    try dsimp -proj only
    k_dat lrg "c"
    have st:stp (c,ps.map (·.2))=((c+ps.length)*48271 % 2147483647,((ps.map (·.2)).eraseIdx (((c+ps.length)*48271 % 2147483647 % ((ps.length:Int)-1)).toNat+1)).set ((c+ps.length)*48271 % 2147483647 % ((ps.length:Int)-1)).toNat (.nd ((ps.map (·.2)).getD ((c+ps.length)*48271 % 2147483647 % ((ps.length:Int)-1)).toNat (.lf [])) ((ps.map (·.2)).getD (((c+ps.length)*48271 % 2147483647 % ((ps.length:Int)-1)).toNat+1) (.lf [])))):=by
     unfold stp;rw[aD]
    have c1:=sS ((c+ps.length)*48271) (show(2147483647:Int)≠0 by decide);have c2:=sO ((c+ps.length)*48271) (show(0:Int)<2147483647 by decide);have i0:=sS ((c+ps.length)*48271 % 2147483647) (show(ps.length:Int)-1≠0 by lia);have i1:=sO ((c+ps.length)*48271 % 2147483647) (show(0:Int)<(ps.length:Int)-1 by lia);generalize (c+(ps.length:Int))*48271 % 2147483647 % ((ps.length:Int)-1)=j at st i0 i1 ⊢;generalize (c+(ps.length:Int))*48271 % 2147483647=c' at st c1 c2 ⊢;have lenG:=adJ (j:=4) (σ:=[some (.ref a),some (.ref t),some (.int bit),some (.int c),some (.ref L),y5,y6,y7,y8,y9,y10]) (p:=L) rfl W.l;obtain⟨jn,rfl⟩:=Int.eq_ofNat_of_zero_le i0;have i1:(jn:Int)<(ps.length:Int)-1:=i1;obtain⟨as,x,y,bs,rfl,rfl⟩:=avT (l:=ps) (j:=jn) tb_g%;have lx:(((as++x::y::bs).map fun p=>V.ref p.1.k))[as.length]? = some (.ref x.1.k):=by simp
    have ly:(((as++x::y::bs).map fun p=>V.ref p.1.k))[as.length+1]? = some (.ref y.1.k):=by simp
    have ler:((as++x::y::bs).map fun p=>V.ref p.1.k).eraseIdx (as.length+1)=(as++x::bs).map fun p=>V.ref p.1.k:=by
     rw[Ui,aj4 tb_g%,show as.length+1-as.length=1 by lia];rfl
    have lps:(as++x::y::bs).length=as.length+bs.length+2:=by rw[cu,cD,cD];lia
    show#[_,rfl,_,rfl,dF (.inl (.inl W.l)) (v:=.ref x.1.k) (fu lx) ?_];show#[_,rfl,.inl #[rfl,_,.inl (.inl W.l)],_,rfl,_,_,rfl,rfl,L,_,(as.length:Int)+1,as.length+1,.ref y.1.k,rfl,rfl,W.l,by lia,by lia,PySem.seqIndex_of tb_g% tb_g%,ly,?_];rw [ler];rw [aR,XQ,cR,cR,gH,gH] at ew em;have W2:=W.chg (ps':=as++x::bs) fun p m=>W.k p (by
     simp only[bH,aP]at m ⊢;rcases m with m|m|m
     ·exact .inl m
     ·exact .inr (.inl m)
     ·exact .inr (.inr (.inr m)))
    obtain⟨ky,ny,mny⟩:=W.k y (by simp);have ky:=ky.chg (as:=(as++x::y::bs).map fun p=>p.1.k) (o:=.lst ((as++x::bs).map fun p=>V.ref p.1.k)) (by rw[dB];exact W.l) ny;obtain⟨kx,nx,mnx⟩:=W2.k x (by simp);clear W;generalize upd G L (.lst ((as++x::bs).map fun p=>V.ref p.1.k))=G2 at W2 kx ky ⊢;have few:x.2.wt+y.2.wt<=63:=by lia
    show#[_,rfl,_,rfl,x.1,y.1,_,_,rfl,kx,ky,mnx.alk mny few,fun z G3 kz kpz frz emz s3=>?_];have mz:=mnx.z7 mny few kpz;have W3:=W2.grow s3;show#[_,rfl,_,_,rfl,rfl,#[tb_g%,tb_g%],_,rfl,_,_,rfl,rfl,dR tb_g% tb_g%,z,_,room,reach,span,_,rfl,kz,mz,?_,fun z' G4 kz' mz' fr s4=>?_]
    ·show x.2.mt+y.2.mt+1<=1000;lia
    have W4:=W3.grow s4;have nz:L∉z'.ems:=fun m=>by
     rcases fr with rfl|fr
     ·have:=emz L m;rw[W2.l]at this;cases this
     ·have:=fr L m;rw[W3.l]at this;cases this
    have W5:=W4.chg (ps':=as++(z',.nd x.2 y.2)::bs) fun p m=>by
     walk_at "e"
     ·exact W4.k p (yP _ m)
     ·walk_at "m"
      ·show#[kz',nz,mz']
      ·exact W4.k p (oG _ (cF _ m))
    have aiP:((as++x::bs).map fun p=>V.ref p.1.k).set as.length (V.ref z'.k)=(as++(z',Tre.nd x.2 y.2)::bs).map fun p=>V.ref p.1.k:=by simp
    show#[_,rfl,_,rfl,.inl #[L,_,_,as.length,rfl,rfl,W4.l,xJ (by simp),?_]];rw[aiP];have l5:(as++(z',Tre.nd x.2 y.2)::bs).length=as.length+bs.length+1:=by rw[cu,cD];lia
    show#[#[c',n+1,_,_,_,_,_,_,_,rfl,W5,?_,by lia,by lia,?_,?_],?_]
    ·show _=stp (runK n (cell,lfs ns));have o:=avU (as.map (·.2)) x.2 y.2 (Tre.nd x.2 y.2) (bs.map (·.2));rw[aD]at o;rw[<-e,st];simp;exact o.symm
    ·rw[aR,XQ,cR,gH];show _+(x.2.wt+y.2.wt+_)<=63;lia
    ·rw[aR,XQ,cR,gH];show _+(x.2.mt+y.2.mt+1+_)+_<=75;lia
    ·rw[lenG,adJ (j:=4) (p:=L) rfl W5.l,aD,aD];lia
   ·have h1:ps.length=1:=by
     have h:¬ ((ps.map fun p=>V.ref p.1.k).length:Int)>1:=fun z=>h (mP z);lia
    obtain⟨p,rfl⟩:=akd.mp h1;have k:=W.k p bY;show#[_,rfl,dF (.inl (.inl W.l)) (v:=.ref p.1.k) rfl ?_];have:tOf cell ns=p.2:=by
     unfold tOf;rw[show(lfs ns).length-1=n by lia,<-e];rfl
    rw[this]at q;have em:p.2.mt+0+1<=75:=em;exact q p.1 G k.1 k.2.2 tb_g% (s0.trans W.s)
theorem avW(T:Tx K mg A):FnK P w base T.aoO CX0 14 (aoV K):=by
 k_dat (T.aoO,T.aoO.ok,aoU) "f"
 ·obtain⟨a,ns,rfl,hS,hlen,q⟩:=h;show#[_,by (k_dat ([hdE],[aoU.nd,dj (JT rfl) (by rfl) T.aoQ ae0 ?_,aB (Vy T) ?_,aB (abr T) ?_,aB (ahc T) ?_,aB (Ua T) ?_],[]) "p"; k_dat (aof hr.units) "h"; k_dat V8 "h"),?_];obtain⟨cs,ecs,lcs,_⟩:=Ab ns none (some 1);show#[_,rfl,_,rfl,a,_,rfl,hS,fun z hz=>?_];rw[ecs];show#[z,_,rfl,.inl (.inl aj),?_]
  k_dat (nwA hz,H0,s0,fH0) "n"
  show#[_,rfl,fun t room reach span H1 r2 r64 ev rr hre hsp ht s1=>?_]
  k_dat lqg "c"
  have s1:=s0.trans s1;have sh:Sh room reach span:=#[r2,r64,ev,rr,hre,hsp];show#[_,rfl,_,rfl,a,t,ns,room,reach,span,0,rfl,s1.seq hS,hlen,ht,sh,.inl rfl,fun x H2 kx mx lm s2=>?_];show#[_,rfl,_,rfl,a,t,ns,room,reach,span,1,rfl,(s1.trans s2).seq hS,hlen,s2 _ _ ht,sh,.inr rfl,fun y H3 ky my _ s3=>?_];have kx:=kx.same s3;have ep:=mx.uniq my;have ax:=mx.al.1;have ay:=my.al.1;have et:=ep.tree ax.nk ay.nk;have el:=ep.lines ax.nk ay.nk;show#[_,rfl,x,_,rfl,kx,ax.kh,fun v H4 s4 i4=>?_];show#[_,rfl,y,_,rfl,ky.same s4,ay.kh,fun w H5 s5 i5=>?_];show#[4,v,w,rfl,rfl,tb_g%,(i4.same s5).alike (et ▸ i5),true,rfl,Uy ?_];have s45:=s4.trans s5;show#[_,rfl,x,rfl,kx.same s45,ax.nb.kx lm ax.kh,fun H6 s6=>#[_,rfl,y,rfl,(ky.same s45).same s6,ay.nb.kx lm ay.kh,fun H7 s7=>?_]];rw[el];show#[rfl,?_];show Q (.bl (decide _)) _;rw[mP rfl];exact q _
theorem bOf0{K:aH}(F:Fun K x q st f fd)(h:∀kV dc pm an cd ct,Df (lE x q (jP st) (jr st) (aq st) .none kV dc pm an cd ct) #[[],[]]=pure []):Binds K fd [] []:=
 F.binds fun _ _ _ _ _ _ us hl=>match us,hl with | [],_=>h _ _ _ _ _ _
theorem bOf1{K:aH}(F:Fun K x q st f fd)(h:∀kV dc pm an cd ct u0,Df (lE x q (jP st) (jr st) (aq st) .none kV dc pm an cd ct) #[[u0],[]]=pure [(p0,u0)]):Binds K fd [p0] []:=
 F.binds fun _ _ _ _ _ _ us hl=>match us,hl with | [u0],_=>h _ _ _ _ _ _ u0
theorem bOf2{K:aH}(F:Fun K x q st f fd)(h:∀kV dc pm an cd ct u0 u1,Df (lE x q (jP st) (jr st) (aq st) .none kV dc pm an cd ct) #[[u0,u1],[]]=pure [(p0,u0),(p1,u1)]):Binds K fd [p0,p1] []:=
 F.binds fun _ _ _ _ _ _ us hl=>match us,hl with | [u0,u1],_=>h _ _ _ _ _ _ u0 u1
theorem bOf3{K:aH}(F:Fun K x q st f fd)(h:∀kV dc pm an cd ct u0 u1 u2,Df (lE x q (jP st) (jr st) (aq st) .none kV dc pm an cd ct) #[[u0,u1,u2],[]]=pure [(p0,u0),(p1,u1),(p2,u2)]):Binds K fd [p0,p1,p2] []:=
 F.binds fun _ _ _ _ _ _ us hl=>match us,hl with | [u0,u1,u2],_=>h _ _ _ _ _ _ u0 u1 u2
theorem bOf4{K:aH}(F:Fun K x q st f fd)(h:∀kV dc pm an cd ct u0 u1 u2 u3,Df (lE x q (jP st) (jr st) (aq st) .none kV dc pm an cd ct) #[[u0,u1,u2,u3],[]]=pure [(p0,u0),(p1,u1),(p2,u2),(p3,u3)]):Binds K fd [p0,p1,p2,p3] []:=
 F.binds fun _ _ _ _ _ _ us hl=>match us,hl with | [u0,u1,u2,u3],_=>h _ _ _ _ _ _ u0 u1 u2 u3
theorem LK.fn{K:aH}(h:LK K n q s f):∃fd,Fun K n q s f fd:=by
 obtain⟨oc,od,an,sl,kV,dc,pm,cd,ct,l,c,k⟩:=h;show#[_,auH l c k]
noncomputable def fdOf{K:aH}{n q:Str}{s:Stmt}{f:Addr}(h:LK K n q s f):FuncData:=Qq h.fn
theorem ajV{K:aH}(h:LK K n q s f):Fun K n q s f (fdOf h):=afl h.fn
theorem CK.cl{K:aH}(h:CK K C):Cls K C:=#[h.1,h.2.1,h.2.2.1,h.2.2.2.1]
theorem CK.mk{K:aH}{C f:Addr}{q:Str}{s:Stmt}(h:CK K C)(m:MeK K C "__init__" q s f):Mk K C f:=#[h.2.2.2.2.1,m.1,m.2.1,h.2.2.2.2.2]
theorem MeK.mt{K:aH}(m:MeK K C n q s f)(F:Fun K n q s f fd):Meth K C n f:=#[m.1,m.2.1,F.kp]
theorem gOf{K:aH}(X:K.In h)(G:h.Ns cV mg)(a:GK K x st f)(b:Fun K x x st f (fdOf a.2)->Binds K (fdOf a.2) ps []:=by first|exact fun F=>bOf0 F (by intros;rfl)|exact fun F=>bOf1 F (by intros;rfl)|exact fun F=>bOf2 F (by intros;rfl)|exact fun F=>bOf3 F (by intros;rfl)):Fg K mg x st f (fdOf a.2) ps:=#[ajV a.2,b (ajV a.2),jh X G a.1]
theorem mOf{K:aH}(a:MeK K C x q st f)(b:Fun K x q st f (fdOf a.2.2)->Binds K (fdOf a.2.2) ps []:=by first|exact fun F=>bOf2 F (by intros;rfl)|exact fun F=>bOf3 F (by intros;rfl)|exact fun F=>bOf4 F (by intros;rfl)):Mg K C x q st f (fdOf a.2.2) ps:=#[ajV a.2.2,b (ajV a.2.2),a.mt (ajV a.2.2)]
def RR(w:World)(K:aH)(mg:Str->Option Value)(fa:Addr):Prop:=∃fd:FuncData,(∀s v,Jc s fd #[[v],[]] [("_law_script",v)])/\∀base:Heap,K.In base->base.Ns cV mg->wg K9.prog w K mg base CX0 14 fa fd ["_law_script"] (aoV K)
theorem all_mk:amO RR:=by
 intro w K h mg fa C'0 C'1 C'2 C'3 C'4 C'5 X G hfa aC'0 zR Fz aC'1 uy Bf aC'2 mK rA aC'3 mL rB aC'4 qu vZ aC'5 mO rC gk0 gk1 gk2 afz afA afB afC afD abF zk QF Bg Cd oR abG Og ahr ZM xY jV uz ju Ce oU Cg oW FJ rD FN rE abH Oh uD jw V3 FQ;obtain⟨⟨_,abt⟩,⟨_,VH⟩,⟨_,arC⟩,⟨_,ajW⟩,⟨_,apD⟩,⟨_,apE⟩,⟨_,apF⟩,⟨_,avX⟩,⟨_,ahg⟩,⟨_,apG⟩,⟨_,ajX⟩,⟨_,ahh⟩,⟨_,arD⟩,⟨_,abu⟩,⟨_,abv⟩,⟨_,VJ⟩,⟨_,ahi⟩,⟨_,abw⟩,⟨_,apH⟩,⟨_,HW⟩,⟨_,ajY⟩,⟨_,Uj⟩,⟨_,ahj⟩,⟨_,K4⟩,⟨_,HX⟩,⟨_,abx⟩,⟨_,apI⟩,⟨_,ajZ⟩,⟨_,a_row⟩,⟨_,Uk⟩,_⟩:=gk0;obtain⟨⟨_,VL⟩,⟨_,K5⟩,⟨_,aj0⟩,⟨_,aby⟩,⟨_,aj1⟩,⟨_,aj2⟩,⟨_,avY⟩,⟨_,adK⟩,⟨_,abz⟩,⟨_,Ul⟩,⟨_,adL⟩,⟨_,ahk⟩,⟨_,adM⟩,⟨_,apJ⟩,⟨_,N7⟩,⟨_,K6⟩,⟨_,HY⟩,⟨_,abA⟩,⟨_,VN⟩,⟨_,Um⟩,⟨_,abB⟩,⟨_,Uo⟩,⟨_,K7⟩,⟨_,adN⟩,⟨_,N8⟩,⟨_,abC⟩,⟨_,VP⟩,⟨_,Oa⟩,⟨_,adO⟩,⟨_,Ob⟩,_⟩:=gk1;obtain⟨⟨_,ahl⟩,⟨_,aj3⟩,⟨_,adP⟩,⟨arV,aiA⟩,_⟩:=gk2;obtain⟨⟨_,abD⟩,⟨_,Uq⟩,⟨_,Ia⟩,⟨_,adQ⟩,_⟩:=afz;obtain⟨⟨_,Cy⟩,⟨_,Oc⟩,⟨_,abE⟩,⟨_,VR⟩,_⟩:=afA;obtain⟨⟨_,yI⟩,⟨_,Ib⟩,⟨_,Ur⟩,_⟩:=afB;obtain⟨⟨_,yJ⟩,⟨_,Us⟩,⟨_,Ut⟩,_⟩:=afC;obtain⟨⟨_,Bd⟩,⟨_,V0⟩,⟨_,Uu⟩,_⟩:=afD;obtain⟨⟨_,Uv⟩,⟨_,Od⟩,⟨_,Oe⟩,⟨_,yK⟩,_⟩:=abF;have e:=hfa.symm.trans (jh X G aiA.1);cases e;obtain⟨na'6,agP,agQ,agR,Lj,SJ,SM,W8,_⟩:=Fz;obtain⟨ahZ,ah0,Ln,W9,_⟩:=Bf;obtain⟨ah1,SQ,SX,Xa,_⟩:=rA;obtain⟨ah2,S6,S7,Xb,_⟩:=rB;obtain⟨ah3,Lp,_⟩:=vZ;obtain⟨ah4,ah5,ah6,ac0,ac1,ac2,ac3,ac4,ac5,ac6,_⟩:=rC;obtain⟨z_abs,z_all,avZ,z_int,z_len,av0,z_max,z_min,arE,ahm,z_set,apK,z_str,z_sum,z_zip,_⟩:=zk;have T:Tx K mg #[C'0,C'1,C'2,C'3,C'4,C'5,_,_,_,_,_,_,_,_,_,_,_,_,_,_,_,_,_,_,_,_,_,_,_,_,_,_,_,_,_,_,_,_,_,_,_,_,_,_,_,_,_,_,_,_,_,_,_,_,_,_,_,_,_,_,_,_,_,_,_,_,_,_,_,_,_,_,_,_,_,_,_,_,_,_,_,_,_,_,_,_,_,_,_,_,_,_,_,_,_,_,_,_,_,_,_,_,_,_,_,_,_,_,_,_,_,_,_,_,_,_,_,_,_,_,_,_,_,_,_,_,_,_,_,_,_,_,_,_,_,_,_,_,_,_,_,_,_,_,_,_,_,_,_,_,_,_,_,_,_,_,_,_,_,_,_,_,_,_,_,_,_,_,_,_,_,_,_,_,_,_]:=#[zR.cl,jh X G aC'0,zR.mk Ia,na'6,agP,agQ,agR,Lj,SJ,SM,W8,uy.cl,jh X G aC'1,uy.mk Cy,ahZ,ah0,Ln,W9,mK.cl,jh X G aC'2,mK.mk yI,ah1,SQ,SX,Xa,mL.cl,jh X G aC'3,mL.mk yJ,ah2,S6,S7,Xb,qu.cl,jh X G aC'4,qu.mk Bd,ah3,Lp,mO.cl,jh X G aC'5,mO.mk yK,ah4,ah5,ah6,ac0,ac1,ac2,ac3,ac4,ac5,ac6,gOf X G abt,gOf X G VH,gOf X G arC,mOf abD,mOf Uq,gOf X G ajW,gOf X G apD,mOf Ia,mOf adQ,gOf X G apE,mOf Cy,mOf Oc,mOf abE,mOf VR,gOf X G apF,gOf X G avX,mOf yI,gOf X G ahg,mOf Ib,mOf Ur,mOf yJ,gOf X G apG,gOf X G ajX,mOf Us,mOf Ut,gOf X G ahh,mOf Bd,mOf V0,mOf Uu,mOf Uv,mOf Od,mOf Oe,mOf yK,gOf X G arD,gOf X G abu,gOf X G abv,gOf X G VJ,gOf X G ahi,gOf X G abw,gOf X G apH,gOf X G HW,gOf X G ajY,gOf X G Uj,gOf X G ahj,gOf X G K4,gOf X G HX,gOf X G abx,gOf X G apI,gOf X G ajZ,gOf X G a_row,gOf X G Uk,gOf X G VL,gOf X G K5,gOf X G aj0,gOf X G aby,gOf X G aj1,gOf X G aj2,gOf X G avY,gOf X G adK,gOf X G abz,gOf X G Ul,gOf X G adL,gOf X G ahk,gOf X G adM,gOf X G apJ,gOf X G N7,gOf X G K6,gOf X G HY,gOf X G abA,gOf X G VN,gOf X G Um,gOf X G abB,gOf X G Uo,gOf X G K7,gOf X G adN,gOf X G N8,gOf X G abC,gOf X G VP,gOf X G Oa,gOf X G adO,gOf X G Ob,gOf X G ahl,gOf X G aj3,gOf X G adP,gOf X G aiA,pO X G z_abs,pO X G z_all,pO X G avZ,pO X G z_int,pO X G z_len,pO X G av0,pO X G z_max,pO X G z_min,pO X G arE,pO X G ahm,pO X G z_set,pO X G apK,pO X G z_str,pO X G z_sum,pO X G z_zip,#[_,jh X G Bg,_,rfl],#[_,jh X G oR,_,rfl],#[_,jh X G Og,_,rfl],#[_,jh X G ZM,_,rfl],#[_,jh X G jV,_,rfl],#[_,jh X G ju,_,rfl],#[_,jh X G oU,_,rfl],#[_,jh X G oW,_,rfl],#[_,jh X G rD,_,rfl],#[_,jh X G rE,_,rfl],#[_,jh X G Oh,_,rfl],#[_,jh X G jw,_,rfl],#[_,jh X G FQ,_,rfl],anD _ _ tb_g%,auL tb_g% tb_g% tb_g%];show#[fdOf aiA.2,fun s v=>?_,fun base _ _=>(avW T).2];obtain⟨_,_,_,_,_,_,_,_,_,e,_⟩:=(ajV aiA.2).ex;rw[e];exact .of_eq rfl
theorem walk{d:YF}{K:Jd->aH}(hn:K9.most=some 63)(hdf:d.params.defaults=[])(hY:∀w h,YP w h->(K w.params).In h)(F:∀w mg fa h,(K w.params).In h->h.Ns cV mg->mg d.name=some (.ref fa)->RR w (K w.params) mg fa):aeA q loose XP YP K9.row.toRowW d [] (fun f vs=>Yr f vs):=
 L2.aqb (n:=63) (k:=14) (x := "_law_script") (CX:=fun _=>CX0) (sp:=fun w=>aoV (K w.params)) hn tb_g% hdf #[rfl,tb_g%,tb_g%] hY F (fun _ _ a ns hl _ hS=>#[a,ns,rfl,hS,hl,fun _=>rfl]) fun _ _ _ _ _ z=>z
end My
theorem PySem.Challenge.cw_sketchbounds_k45_whole_written_in_the_mi_holds : PySem.Challenge.rw_sketchbounds_k45_whole_written_in_the_mi.Holds := by
  exact My.head My.RR My.all_mk My.walk

