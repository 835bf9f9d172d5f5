import PyProof.Rows.All
import Wide.All
import Wide.FinOn
import Lean
import KE.KData
import KE.KDictList
import KE.KDictOf
import KE.KDictSum
import KE.KIsAll
import KE.KItem
import KE.KRevIter
import KE.KSortTup
import KE.KTreeO
import ObjForm.Claim3
import Open.Head
import Open.Row
import OpenK.KCall
import OpenK.KCls
import OpenK.KDescr
import OpenK.KFacts
import OpenK.KGet
import OpenK.KLine
import OpenK.KMake
import OpenK.KMore
import OpenK.KOps
import OpenK.KOwn
import OpenK.KRaise
import OpenK.KWalk
import OpenK.Peek
import OpenK.ZHead
import PyProof.AutoIntG2
import PyProof.CollectIter
import PyProof.EqAt
import PyProof.EqKinds
import PyProof.ForAny
import PyProof.NeKinds
import PyProof.Rows.Range3
import PyProof.Rows.SetFrom
import PyProof.Rows.SumAny
import PyProof.SetRoads
import PyProof.TupleCall
import PyProof.ZipIter
import KE.RegKIsAll
import Open.Pieces
import PyProof.ListIndex
import PyProof.Rows.StrWeight2
import PyProof.StrCalls
import PyProof.Rows.RuleN_abs
import PyProof.JoinWalk
import PyProof.Rows.StrDigits
import PyProof.StrBlock
import PyProof.StrBlockL
import PyProof.ListRange
import PySem.Challenge.RW_sketchbounds_k35_runs_of_pieces
set_option compiler.extract_closed false
abbrev Q1:List PySem.Str:=["one","other"]
abbrev Q2:List PySem.Str:=["self","thing","weight"]
abbrev Q3:List PySem.Str:=["self","room"]
abbrev Q10:List PySem.Str:=["thing"]
abbrev Q11:List PySem.Str:=["part"]
abbrev Q12:List PySem.Str:=["self","many"]
abbrev Q13:List PySem.Str:=["self","room","reach","span"]
abbrev Q14:List PySem.Str:=["keepsake"]
abbrev Q15:List PySem.Str:=["_law_script","_law_kind","_law_level","_law_at"]
abbrev Q16:List PySem.Str:=["things","turns"]
abbrev Q17:List PySem.Str:=["self","stands_for"]
abbrev Q18:List PySem.Str:=["self","room","reach"]
abbrev Q19:List PySem.Str:=["self","weight"]
abbrev Q20:List PySem.Str:=["things","level"]
abbrev Q21:List PySem.Str:=["self","thing"]
abbrev Q22:List PySem.Str:=["self","span"]
abbrev Q23:List PySem.Str:=["lists","place"]
abbrev Q24:List PySem.Str:=["_law_script","_law_k"]
abbrev Q25:List PySem.Str:=["self","keepsake"]
abbrev Q26:List PySem.Str:=["lists","thing","weight"]
abbrev Q27:List PySem.Str:=["sums","thing","weight"]
abbrev Q28:List PySem.Str:=["_law_script","_law_k","_law_salt","_law_many_here"]
abbrev Q29:List PySem.Str:=["_law_script","_law_k","_law_kind"]
abbrev Q30:List PySem.Str:=["self","first","last"]
abbrev Q31:List PySem.Str:=["_law_script","_law_kind","_law_first","_law_last"]
abbrev Q32:List PySem.Str:=["_law_shelf","_law_first","_law_last"]
abbrev Q33:List PySem.Str:=["_law_shelf","_law_kind"]
abbrev Q34:List PySem.Str:=["_law_script","_law_k","_law_shelf","_law_kind","_law_many_here"]
set_option linter.defProp false
open List renaming length_map->aZ,length_append->cV,getElem?_eq_getElem->fY,getElem?_eq_some_iff->gH,mem_cons_of_mem->fB,mem_cons_self->eN,mem_cons->cP,map_append->cC,mem_singleton->dh,size_toArray->cW,mem_append->cR,length_cons->dH,map_cons->dW,getElem?_map->gZ,nodup_cons->g8,getElem?_append_left->qm,not_mem_nil->iW,append_assoc->jx,getElem?_append_right->vm,length_take->jy,pairwise_cons->lK,take_of_length_le->qp,getD_eq_getElem?_getD->vU,mem_append_right->qt,length_set->jz,mem_or_eq_of_mem_set->vV,take_add_one->nZ,sum_cons->jr,getElem?_eq_none->vo,length_filter_le->vX,take_length->qu,mem_map->kj,length_eq_zero_iff->Gh,length_reverse->yO,cons_ne_nil->vp,getElem?_set_ne->Av,getElem?_set_self->Gi,map_map->n8,filter_append->Aw,filterMap_cons->Gj,nodup_nil->oR,mem_filter->rH,filter_cons->ug,map_reverse->uh,getElem?_eq_none_iff->Im,length_replicate->Dp,length->lQ,mem_reverse->vY,nodup_append->zp,flatMap_cons->zq,replicate->vZ,getElem?_of_mem->Io,nil_append->zu,find?_cons->zx,map_congr_left->Ip,filter_cons_of_neg->Oo,getElem_mem->Dq,take_append_of_le_length->VH,range->oU,filter_eq_nil_iff->Oq,append_nil->Dr,sum_append->Ds,any_cons->zy,length_range->Ir,exists_cons_of_ne_nil->VJ,mem_append_left->Ot,mem_iff_getElem->Ou,pairwise_iff_getElem->VL,mergeSort_perm->Ov,reverse_append->Ow,flatMap_append->Ox,pairwise_mergeSort->VN,filter_cons_of_pos->VP,drop_of_length_le->VR,lookup->zA,length_filterMap_eq_countP->adn,map_nil->Dt,take_append_drop->V0,getElem?_toArray->V1,getElem?_reverse->V2,cons_append->Oz,mem_of_mem_drop->V3,filter_eq_self->V4,drop_set_of_lt->V5,take_succ_cons->V6,foldl_cons->OD,mem_map_of_mem->V7,length_eraseIdx_of_lt->ado,mem_filterMap->V8,mem_range->OJ,drop_eq_getElem_cons->adp,take_zero->O1,take_sublist->V9,getElem?_replicate->adq,getLast?_cons_cons->adt,getElem?_cons_succ->adu,length_drop->Wa,lookup_cons->Wc,drop_length->Wd,pairwise_lt_range->adw,of_mem_zip->Wf,pairwise_append->adx,mem_of_mem_tail->ady,reverse_reverse->adz,drop_succ_cons->adA,take_set_of_le->adB,getElem?_range->adC,map_filterMap->adD,take_nil->Wg,filterMap_map->adE,map_drop->Wh,reverse_cons->adF,foldl_append->adG,all_eq_true->adH,perm_middle->adI,getElem_map->adJ,sum_reverse->adK,mem_flatMap->adL,length_nil->adM,drop_left->adN,drop_zero->adO,all_cons->adP,nil_perm->adQ,map_id'->adR,sum_nil->adS
open PySem renaming wpAny_bind->aJ,wpAny_pure->aR,Program->aP,mainGlobals->dI,starEach->cO,wpAny_mono->eO,Around->bH,boot_len->mK,wpAny_holding->oh,codeAny_builtin->vq,wpAny_call_entry->yP,wpAny_newObj_type->Ax,sliceBounds->j4,SetTable->fP,plainId_quiet->oW,Builtin->dZ,wpAny_ite_split->um,mem_of_lookup->Dv,wpAny_Call_Name_kw->Dw,wpAny_setField_rec->Dy,codeAny->f9,wpAny_seqItems->v8,codeAny_call_builtin->Iu,wpAny_truthy_bool->Dz,wpAny_passesOwn->zB,compareOp->kO,relabel->gC,wpAny_setState_of->DG,fits_of_scanBound->DK,codeAny_mono->uo,attributeBase->v9,wpAny_callSpecial?_slot->O2,wpAny_setEntries_of->Iv,wpAny_askSetting->DN,intKind->iQ,wpAny_execs_nil->DQ,wpAny_of_eq->uq,builtinLookup_eq_fast->O3,wpAny_updateSeq->DR,sysModules->rJ,foldedSetIterable->Iw,wpAny_pyIter_revIter->O4,backTo->gh,wpAny_tryCatch->DW,bootBuiltins->zE,wpAny_comprehension_free->Wj,importedModules->Iz,letOwnedTupleGo->IK,tupleKind_room_in1->O5,wpAny_attempt->DX,wpAny_call->wg,keywordEach->zF,binaryOp->oX,checkBuiltinCall->O6,wpAny_isInstance->O7,treeTable->wj,wpAny_specialOf->O8,typeLookup_type->O9,argBest->nu,wpAny_typeOf->IV,call_reversed_list->Wk,setAddHashedIn->Pa,isSubtype_type->Pb,wpAny_fieldsOf->Pg,assignEach->DY,slot_list_getitem->Wl,wpAny_getItem_list_slice->adT,wpAny_Call_method->Wm,wpAny_pyIter_slot->Wo,behindInMarks->Ph,relayAll->wu,unsupported->IW,wpAny_letGo->Ja,wpAny_execs_cons->Wq,pyNext->lR,Result->lU,wpAny_Call_method_late->adU,codeAny_compStart_list->adV,tupleKind->Ea,swapsWith->Eb,rawInt->nA,Keyword->ur,bindArgs->zG,backToKw->zH,NameKind->zJ,entryFor->zK,wpAny_rule->Jb,storeSet->zL,intItems->zM,wpAny_newFunctionEnv->adW,codeAny_extend_loopS->adX,entryFor_alias->Wr,wpAny_runValue->Ws,gives_joinTail->Wt,holding->wz,sizeLine_eq->Pj,evalArgs_none->adY,assign->rK,wpAny_standAt->Wu,getMethod->Jc,slicePick->Jd,wpAny_newList->Wv,call->Pk,wpAny_assign_Name->adZ,wpAny_pyIter_list->ad0,typeLookup->Pn,valueAt->zN,callerA->zO,wpAny_storeSet_of->ad1,setsByText->Pq,wpAny_setEpoch_of->ad2,Within->Ww,seqIndex_neg->Wx,wpAny_pyIter_zip->ad3,pyIter->wA,BindsTo->Ec,seqIndex_of->Wy,subscripted->Wz,pickOrder->Pr,codeAny_of_tree->ad4,argsOk->wB,builtinKind->WD,intItems_at->WK,wpAny_Expr_any->ad5,method_meetsIn->ad6,fastBuiltinMro->ad7,newFunctionEnv->ad8,firstArgMember->ad9,isSubtype_stop->aea,builtinsNs->WL,wpAny_Name->WM,wpAny_load->WQ,typeIs_str->WR,checkCount->WT,closureFor->WW,isInstance->WX,bltViewBooted->aeb,standAt->Je,intBits_le_64->aec,evalPart_none->aed,call_list_seq->aee,compEnvC->Pu,newList->Jf,eval_ListComp->aef,relayAll_perm->aeg,relayAll_fits->aeh,collect->Jg,ItemsOf->Jh,Params->Ed,PassesOwn->WY,cellsFrom->W6,call_meetsIn->aei,DictEntry->W7,setAddHashed->aej,newFields->W8,updateSeq->W9,getItem->Px,ElemsOf->Py,isTrue->Ji,callWith->Xa,layNew->Jj,Thread->Pz,DefRec->PB
open PySem.W renaming Frag->aW,findIn->gK,mg_none_of->oY,mroIn->jA,mg_of->kE,nsIn->jt,kitOne->oZ,kia_one->vA,emptyDict->Ay,fnOf->lV,keepIn->ux,instObj->wC,typeIn->wD,specialIn->Ef,plainGet->Eh,hasDictIn->Jk,excIn->zP,hideAll_none->PJ,looks_findIn->PK,takesIn->Jl,of_hideAll->PL,callWith_K->PN,Looks->Ei,plainOver->P0,codeIn->Jm,kitAny->Jo,methodCall_KW->Xb,makesIn->Qa,hideAll_get->Xc,plainGet_of->Xd,looks_mroIn->Xe,isFn->Jp,lookIn->Qc,kitCls->Qd,methodObj->Xf,cellsFrom_some->aek,takerIn->Xg,kdu_collect->ael,WalkO->Xh,clsIn->Xi,kitx_list->aem,kitx_dict->aen,handedIn->aeo,kdl_dict->aep,hideAll->aer,kitMeta->aes,kit_cls->aeu,kIn_of->alo,KdlSrc->aev
open PySem.Heap renaming get?_push_of_some->dX,lt_size->bR,get?_push_size->eU,get?_update_other->yQ,get?_update_self->Jq,size_push->wF,SameBut->wG,get?_none_of_le->Xj
open Option.some renaming inj->bW,injEq->Xk
open Nat renaming le_refl->bh,ne_of_lt->cM,lt_of_lt_of_le->gk,zero_le->dF,le_trans->gM,lt_or_ge->ig,mul_le_mul_right->wH,pow_succ->kW,pow_le_pow_right->yR,le_of_lt->ou,lt_succ_of_lt->Az,lt_irrefl->nF,mul_assoc->o8,lt_succ_self->wI,ne_of_gt->o9,mul_comm->rM,zero_add->uy,lt_trans->uz,le_succ->rO,div_div_eq_div_mul->Qe,lt_of_le_of_lt->Jr,eq_zero_or_pos->Js,sub_self->wJ,succ_mul->wK,mul_add->wL,add_mul->wM,pow_zero->zQ,strongRecOn->Jt,le_succ_of_le->Qf,min_eq_left->Qg,le_of_eq->Ju,mul_zero->Jv,add_zero->Jw,lt_trichotomy->Xl,one_mul->Jx,not_lt_zero->Xm,mul_le_mul_left->aew,div_eq_of_lt_le->aex,pos_of_ne_zero->aey,digitChar->Xn,le_of_not_lt->aez,mul_one->Xo,mul_two->Xp,pow_pos->Xq,add_le_add->aeA,mul_le_mul->aeB,not_lt->Xr,mod_lt->Xu,add_assoc->aeC,repr->Qh,succ_pos->aeD,pow_one->aeE,log2_lt->aeF,pow_add->aeG
open PySem.Str renaming ofString->bG,ofString_eq_toList->aeH,empty->Xv
open Ne renaming symm->aU
open Bool renaming false_ne_true->gO,and_eq_true->Jy,eq_iff_iff->Qi,or_eq_true->Xw,and_eq_true_iff->aeI,and_false->Xx,false_eq_true->aeJ,not_eq_true'->aeK,false_and->aeL,false_or->aeM
open PySem.Challenge renaming rw_sketchbounds_k35_runs_of_pieces->Gk,pw_sketchbounds_k35_runs_of_pieces->alp
open PySem.F renaming plainAttrs_list->mL,slot_list_append->sY,type_list_append->sZ,excBase_ValueError->Jz,slot_str_join->Ej,plainAttrs_str->JB,slot_list_extend->Qj,type_list_extend->Qk,type_str_join->Ql,plainAttrs_dict->Xy,slot_dict_get->Xz,slot_dict_values->aeN,args_dict_get_3->aeO,slot_dict_items->aeP,plain_list_iadd->aeQ,entry_dict_get->aeR
open Int renaming le_refl->dY,pow_succ->lM,mul_le_mul_of_nonneg_right->Mu,zero_add->mO,toNat_of_nonneg->zR,mul_le_mul_of_nonneg_left->Qm,toNat_natCast->zT,natCast_pow->wN,emod_lt_of_pos->Ek,natCast_add->zU,emod_nonneg->El,mul_assoc->zV,fdiv_eq_ediv_of_nonneg->XC,natAbs_mul->En,dvd_of_emod_eq_zero->XD,pow_pos->Eo,mul_neg_of_neg_of_pos->aeS,one_mul->JC,mul_comm->Qn,add_mul->Qo,pow_add->Qp,natCast_nonneg->aeT,mul_right_comm->aeU,mul_emod_right->aeV,add_zero->XF,mul_add->XH,le_antisymm->aeW,natCast_mul->aeX,mul_le_mul->aeY,mul_nonneg->aeZ,ne_of_gt->ae0,lt_or_le->ae1,mul_one->ae2
open Array renaming getElem?_toList->qw,length_toList->qx,toList_append->Qq,toList_inj->Qs,getElem?_eq_some_iff->ae3,toList_push->XJ,size_append->XM,getElem?_eq_none->ae4,toArray_toList->ae5,size_replicate->ae6,toList->ae7
open PySem.PassesOwn renaming never->jB
open PySem.SetTable renaming below->jC,grown->zW,has->Qt,toList_insertAt->alq,slot->ae8,fits->ae9,probeStart->alr,orStandIn->als,sizeAbove->alu,freeSlot->alv,insertAt->alw,layClean->alx,advance->aly,standIn->alz,relaid->alA,Probe->alB,laid->alC,put->alD
open PySem.Builtin.List renaming listExtendWith->Bb,listLengthHint->Qu,listSameRef->Qv,listTooLong->XQ,listItems->XR,listUpdate->alE
open PyProof.Rows renaming callWith_type1->Gm,boot_isinstance->Mv,boot_sorted->Ep,boot_max->XS,envOfC->j7,expectedOf->afa,plainGoodE->afb,plainGoodD->afc,AllBare->rP,subscriptTail->Qw,subscriptTail_builtinR->afd,boot_list->afe,boot_dict->afg,entry_list_sort->X7,boot_str->afh,boot_int->afi,drecsOf->afj,slot_list_sort->X8,sortedHeap_old->Yb,sortedHeap_at->Yc,boot_reversed->Yd,size_push'->Qx,callWith_builtin1->alF,plain_sorted->Ye,entry_sorted->Yg,seqObj->wO,kind_sorted->Yh,list_sort_tree->afk,args_list_sort->afl,Subscript_->Yi,Constant_bool->afm,Constant_none->afn,boot_bool->alG,floordiv_int->afo,args_sorted1->afp,boot_set->alH,boot_abs->alI,boot_min->alJ,SortSt->Qy
open PySem.Around renaming under_plainId->yS,under->Yj
open False renaming elim->kY
open PySem.Txt renaming join->iu,zfill->Qz
open PySem.Calls renaming spliced_cons->zX,spliced_nil->Er,evalArgs_plain->QB,callWith_builtin->Yk,Name_function_global->afq,call_function_entry->afr
open Option renaming map_eq_some_iff->JD,isSome_iff_exists->afs,bind_eq_some_iff->aft,getD_none->Yl,isSome_map->afu,mem_toList->afv,map_some->afw,map_map->afx
open PySem.Obj renaming mapSeq->pq,putSet->QC
open PySem.SetTable.below renaming go->QD
open PySem.Builtin.Str renaming glued->QF,padded->alK
open Prod renaming ext->rQ
open PySem.Value renaming isInt->Es,isStrOf->afy
open PySem.Builtin.ObjectAttr renaming find->afz,getOf->alL
open PySem.SeqAt.EqAt renaming same->Ym,int_str->afA,str_int->afB,of_refs->afC,none_bool->alM,bool_none->alN,bool_bool->alO,none_int->alP,none_str->alQ,bool_int->alR,bool_str->alS,int_none->alT,int_bool->alU,str_none->alV,str_bool->alW,int_int->alX,str_str->alY
open List.Perm renaming append_left->afD,cons_inv->afE,refl->afF
open Classical renaming choose_spec->afG,choose->afH
open PySem.SeqAt renaming EqAt->JF
open PySem.Heap.SameBut renaming update->afI,refl->alZ
open PySem.W.Fast renaming te9446332074065402090->al0
open Prod.mk renaming injEq->Yn
open PySem.Paired renaming length->Yo,snoc->afJ
open PySem.Heap.IsSliceOf renaming new->afK
open List.Nodup renaming sublist->afL
open PySem.Code renaming quiet_builtin->afM,isFrame->Yp,frames->afN
open PySem.W.KF renaming slot_gs->afO,owner_class->al1,entry_class->al2,type_class->al3,entry_gs->al4,args_gs->al5
open Eq renaming trans->Et
open PySem.AutoSeq1 renaming list_extend_list_list_0->al6
open PySem.SetTable.probe renaming go->afP
open List.Sublist renaming map->afQ
open PySem.W.Looks renaming ld->afR,here->al7
open PySem.Builtin.Frozenset renaming updateFrom->al8,newClass->al9,sizeOf->ama
open PySem.Builtin.Builtins renaming bindParams->amb
open PySem.EqNone renaming eq_none_none->amc,eq_none_bool->amd,eq_bool_none->ame,ne_none_none->amf,ne_none_bool->amg,ne_bool_none->amh,eq_none_int->ami,eq_none_str->amj,eq_int_none->amk,eq_str_none->aml,ne_none_int->amm,ne_none_str->amn,ne_int_none->amo,ne_str_none->amq
open PySem.EqMixed renaming eq_bool_str->amr,eq_str_bool->ams,ne_bool_str->amt,ne_str_bool->amu,eq_int_str->amv,eq_str_int->amw,ne_int_str->amx,ne_str_int->amy
open PySem.Bind renaming checkArgs->afS
open PySem.SetTable.Met.empty renaming injEq->amz
open PySem.Walks renaming list->Yq
open PySem.Builtin.Range renaming rangeSize->amA
open List.Pairwise renaming filterMap->amB
open PySem.Shared renaming TypeIs->afT
open PySem.Heap.UpToSlots renaming of_keeps->amC
open Sum.inl renaming inj->afU
open PySem.ItemsOf renaming nil->afV
open PySem.SeqAt.RcNeAt renaming tuples->amD,lists->amE
open PySem.Within renaming cons->amF
open PySem.Heap.Ns1 renaming of_empty->amG
open PySem.SeqAt.RcAt renaming tuples->amH,lists->amI
open Char renaming toNat->afW
open PySem.DictEntry renaming refKey->amJ
open PySem.IsL renaming update->amK
open PySem.Heap.DictOf renaming new->amL
open PySem.SC renaming zfill->amM
open PySem.Value.ref renaming inj->amN
open Int.ofNat renaming inj->amO
set_option hygiene false
local macro_rules | `(term| tb_g%) => `(by first | decide +kernel | lia | exact hr.mono (by decide))
local macro_rules | `(tactic| k_dat ($x0,$x1:ident,$x2:ident) "a") => `(tactic| (refine $x0:term $x1:ident (fun vs H Q E h=>?_) (fun cdv B outer $x2:ident H vs Q E hr h=>?_)))
local macro_rules | `(tactic| k_dat ($x0:ident,$x1:ident,$x2,$x3,$x4) "b") => `(tactic| (refine ⟨_,rfl,p,_,$x0:ident,_,rfl,$x1:ident,$x2:term,$x3:term,(by show $x4:term<1000;decide),?_⟩))
local macro_rules | `(tactic| walk_at "c") => `(tactic| (intro X hP hw hK hc i pins s σ H E I hf st hg))
local macro_rules | `(tactic| k_dat $x0:ident "d") => `(tactic| (obtain ⟨f0,f1,f2,f3,f4,f5⟩:=hf $x0:ident (by simp)))
local macro_rules | `(tactic| walk_at "e") => `(tactic| (intro pins s σ H Q I h))
local macro_rules | `(tactic| walk_at "f") => `(tactic| (intro pins s σ H xs us Q I r h))
local macro_rules | `(tactic| walk_at "g") => `(tactic| (intro pins s σ H x y v u Q I rx ry h))
local macro_rules | `(tactic| k_dat $x0:ident "h") => `(tactic| (exact oG ⟨by show 1<=sizeLine;decide,$x0:ident⟩))
local macro_rules | `(tactic| walk_at "i") => `(tactic| (rcases cR.mp m with m | m))
set_option hygiene true
set_option maxRecDepth 100000
set_option maxHeartbeats 0
namespace L2
open PySem
def inClass (s:Stmt) (j:Nat):Stmt:=match s with
 | .ClassDef _ _ _ body _ _ _ _ _ _ _=>body.getD j (.Pass ⟨0,0,0,0⟩)
 | _=>.Pass ⟨0,0,0,0⟩
def kZ (s:Stmt):Arguments:=match s with
 | .FunctionDef _ a _ _ _ _ _ _ _ _=>a
 | _=>{ posonlyargs:=[],args:=[],vararg:=none,kwonlyargs:=[],kw_defaults:=[],kwarg:=none,defaults:=[] }
def jg (s:Stmt):List Stmt:=match s with
 | .FunctionDef _ _ b _ _ _ _ _ _ _=>b
 | _=>[]
def aG (s:Stmt):Scope:=match s with
 | .FunctionDef _ _ _ _ _ _ sc _ _ _=>sc
 | _=>{ kind:=.function,names:=[],isGenerator:=false,isCoroutine:=false }
end L2
namespace My
open PySem PySem.W PyProof.Rows
def qy (tb:String->Option dZ) (p:aP) (w:World) (n₀:Nat) (ann:Option Value):Nat->SharedT->Pz->Option SharedT
 | 0,_,_=>none
 | n+1,s,t=>match through t with
  | true=>some s
  | false=>match stepOk n₀ ann t with
   | false=>none
   | true=>match stepT (denote tb) p w s t with
    | some (s',t')=>qy tb p w n₀ ann n s' t'
    | none=>none
theorem JG {tb:String->Option dZ} {p:aP} {w:World} {n₀:Nat} {ann:Option Value}:∀ {n:Nat} {s s':SharedT} {t:Pz},qy tb p w n₀ ann n s t=some s'->topRun tb p w n₀ ann n s.abs t=some s'.abs
 | 0,_,_,_,h=>by cases h
 | n+1,s,s',t,h=>by
  unfold qy at h
  unfold topRun
  cases ht:through t with
  | true =>
   rw [ht] at h
   obtain rfl:=bW h
   rfl
  | false =>
   rw [ht] at h
   dsimp only at h ⊢
   cases hs:stepOk n₀ ann t with
   | false=>rw [hs] at h;cases h
   | true =>
    rw [hs] at h
    dsimp only at h ⊢
    cases hq:stepT (denote tb) p w s t with
    | none=>rw [hq] at h;cases h
    | some x =>
     obtain ⟨s2,t2⟩:=x
     rw [hq] at h
     rw [stepT_spec hq]
     exact JG h
def treeOf:List Obj->Nat->BT->Option BT
 | [],_,t=>some t
 | o::r,n,t=>match ((t.ins n o).get n).isSome with
  | true=>treeOf r (n+1) (t.ins n o)
  | false=>none
theorem Mw {life:Life}:∀ {l:List Obj} {n:Nat} {t t':BT},treeOf l n t=some t'->absHeap t' (n+l.length) life=⟨((t.list n)++l).toArray,life⟩
 | [],n,t,t',h=>by
  obtain rfl:=bW h
  rw [Dr];rfl
 | o::r,n,t,t',h=>by
  unfold treeOf at h
  cases g:((t.ins n o).get n).isSome with
  | false=>rw [g] at h;cases h
  | true =>
   rw [g] at h
   have e:=Mw (life:=life) h
   rw [show n+(o::r).length=n+1+r.length by rw [dH];lia,e]
   have e2:=absHeap_ins (life:=life) g
   have e3:(t.ins n o).list (n+1)=t.list n++[o]:=by
    have:=congrArg (fun h:Heap=>h.objs.toList) e2
    simpa [absHeap,Heap.push] using this
   rw [e3,jx];rfl
def QG (h:Heap):Option BT:=treeOf h.objs.toList 0 .nil
theorem abx {h:Heap} {T:BT} (e:QG h=some T):absHeap T h.objs.size h.life=h:=by
 have:=Mw (life:=h.life) e
 rw [uy,qx] at this
 rw [this]
 show Heap.mk (([]++h.objs.toList).toArray) h.life=h
 rw [zu]
/-- the opening and the top -/
def aby (p:aP) (w:World) (N:Nat):Option (Shared × SharedT):=(fencedOpening wj p w N).bind fun s₀ =>
 match s₀.heap.isNs dI && s₀.gens.size == 0 with
 | true=>(QG s₀.heap).bind fun T=>(qy wj p w s₀.heap.objs.size (s₀.heap.nsMap dI "__annotations__") N ⟨T,s₀.heap.objs.size,s₀.heap.life,s₀.gens,s₀.drawn,s₀.toks,s₀.os⟩ (topStub p)).map fun s₁=>(s₀,s₁)
 | false=>none
def okT (p:aP) (x:Shared × SharedT):Bool:=staticsOk (Iz p.main.body) x.1.heap x.2.abs.heap && namesBound p x.2.abs.heap && gensDone x.2.abs && laidKept x.1.heap x.2.abs.heap
/-- what is told of it,look by look -/
abbrev Eu (p q:aP) (Xt:Shared->Bool) (x:Shared × SharedT):=openSeen q [] (Iz p.main.body) Xt true x.2.abs
theorem aiT {p:aP} {w:World} {N:Nat} {x:Shared × SharedT} (h:aby p w N=some x) (ok:okT p x=true):openEnds wj p w N=some x.2.abs:=by
 unfold aby at h
 obtain ⟨s₀,e0,e1⟩:=aft.mp h
 unfold openEnds
 rw [e0]
 show topFrom wj p w N s₀=_
 unfold topFrom
 cases g:(s₀.heap.isNs dI && s₀.gens.size == 0) with
 | false=>rw [g] at e1;cases e1
 | true =>
  rw [g] at e1
  dsimp only at e1 ⊢
  obtain ⟨T,eT,e2⟩:=aft.mp e1
  obtain ⟨s₁,e3,e4⟩:=JD.mp e2
  subst e4
  have r:=JG e3
  have ab:(SharedT.mk T s₀.heap.objs.size s₀.heap.life s₀.gens s₀.drawn s₀.toks s₀.os).abs=s₀:=by
   show Shared.mk (absHeap T s₀.heap.objs.size s₀.heap.life) _ _ _ _=s₀
   rw [abx eT]
  rw [ab] at r
  rw [r]
  show (match staticsOk (Iz p.main.body) s₀.heap s₁.abs.heap && namesBound p s₁.abs.heap && gensDone s₁.abs && laidKept s₀.heap s₁.abs.heap with
   | true=>some s₁.abs
   | false=>none)=_
  have ok':(staticsOk (Iz p.main.body) s₀.heap s₁.abs.heap && namesBound p s₁.abs.heap && gensDone s₁.abs && laidKept s₀.heap s₁.abs.heap)=true:=ok
  rw [ok']
/-- one look -/
def Look (p:aP) (N:Nat) {β:Type} (f:Shared × SharedT->β) (b:World->β):Prop:=∀ w:World,(aby p w N).map f=some (b w)
theorem Look.at {p:aP} {N:Nat} {β:Type} {f:Shared × SharedT->β} {b:World->β} (h:Look p N f b) {w:World} {x:Shared × SharedT} (e:aby p w N=some x):f x=b w:=by
 have:=h w
 rw [e] at this
 exact bW this
theorem aiU {p q:aP} {Xt:Shared->Bool} {α:Type} {Yf:Shared->α} {Ya:World->α} {N:Nat}
  (h0:Look p N (okT p) fun _=>true)
  (h1:Look p N (fun x=>(Eu p q Xt x).1) fun _=>(openGood q []).1)
  (h2:Look p N (fun x=>(Eu p q Xt x).2.1) fun _=>(openGood q []).2.1)
  (h3:Look p N (fun x=>(Eu p q Xt x).2.2.1) fun _=>(openGood q []).2.2.1)
  (h4:Look p N (fun x=>(Eu p q Xt x).2.2.2.1) fun _=>(openGood q []).2.2.2.1)
  (h5:Look p N (fun x=>(Eu p q Xt x).2.2.2.2.1) fun _=>(openGood q []).2.2.2.2.1)
  (h6:Look p N (fun x=>(Eu p q Xt x).2.2.2.2.2.1) fun _=>(openGood q []).2.2.2.2.2.1)
  (h7:Look p N (fun x=>(Eu p q Xt x).2.2.2.2.2.2.1) fun _=>(openGood q []).2.2.2.2.2.2.1)
  (h8:Look p N (fun x=>(Eu p q Xt x).2.2.2.2.2.2.2.1) fun _=>(openGood q []).2.2.2.2.2.2.2.1)
  (h9:Look p N (fun x=>(Eu p q Xt x).2.2.2.2.2.2.2.2) fun _=>(openGood q []).2.2.2.2.2.2.2.2)
  (hY:Look p N (fun x=>Yf x.2.abs) Ya):LeftO p q [] Xt Yf Ya N:=fun w=>by
 obtain ⟨x,e,_⟩:=JD.mp (h0 w)
 show (openEnds wj p w N).map _=_
 rw [aiT e (h0.at e)]
 show some (Eu p q Xt x,Yf x.2.abs)=some (openGood q [],Ya w)
 have a:=hY.at e
 have b:Eu p q Xt x=openGood q []:=rQ (h1.at e) (rQ (h2.at e) (rQ (h3.at e) (rQ (h4.at e) (rQ (h5.at e) (rQ (h6.at e) (rQ (h7.at e) (rQ (h8.at e) (h9.at e))))))))
 rw [b]
 exact congrArg some (rQ rfl a)
/-- the objects at some places,read off the tree -/
def afX (s:SharedT):List Addr->Option (List (Option Obj))
 | []=>some []
 | a::r=>match Nat.blt a s.n with
  | true=>match s.tree.get a with
   | some o=>match afX s r with
    | some l=>some (alive o::l)
    | none=>none
   | none=>none
  | false=>none
theorem aaf {s:SharedT}:∀ {as:List Addr} {l:List (Option Obj)},afX s as=some l->as.map s.abs.heap.get? = l
 | [],l,h=>bW h
 | a::r,l,h=>by
  unfold afX at h
  cases hb:Nat.blt a s.n with
  | false=>rw [hb] at h;cases h
  | true =>
   rw [hb] at h
   dsimp only at h
   cases ho:s.tree.get a with
   | none=>rw [ho] at h;cases h
   | some o =>
    rw [ho] at h
    dsimp only at h
    cases hl:afX s r with
    | none=>rw [hl] at h;cases h
    | some l2 =>
     rw [hl] at h
     obtain rfl:=bW h
     rw [dW,aaf hl]
     exact congrArg (· :: l2) (abs_get (Nat.le_of_ble_eq_true hb) ho)
open PySem.W.Fast renaming tw10156331382660048174->akp, te10156331382660048174->afY, tw6613529449190102663->aag, te6613529449190102663->Yr, tw11892475500146522536->aah, te11892475500146522536->Ys, tw14364793385576792824->afZ, te14364793385576792824->Mx, tw4187177175401517315->abz, te4187177175401517315->QH
noncomputable def af0 (w:World) (os:OsState):Shared:=⟨boot_heap w.params,Array.mk [],boot_drawn,boot_toks,os⟩
noncomputable def aai (p:aP) (w:World) (N:Nat) (s₀:Shared):Option (Shared × SharedT):=(QG s₀.heap).bind fun T=>(qy wj p w s₀.heap.objs.size (s₀.heap.nsMap dI "__annotations__") N ⟨T,s₀.heap.objs.size,s₀.heap.life,s₀.gens,s₀.drawn,s₀.toks,s₀.os⟩ (topStub p)).map fun s₁=>(s₀,s₁)
theorem aiV (P:Ed):(boot_heap P).isNs dI=true:=by kernel_rfl
theorem abA {p:aP} {N:Nat} (e:opening p=plainProg p.main.scope.names) (hN:Nat.ble 600 N=true) (f:∀ s,fenceModules? p s=some s) (w:World):∃ os,aby p w N=aai p w N (af0 w os):=by
 obtain ⟨s,hs,hv⟩:=JD.mp (boot_open e hN f w)
 obtain ⟨h,g,d,k,os⟩:=s
 simp only [Yn] at hv
 obtain ⟨rfl,rfl,rfl,rfl⟩:=hv
 refine ⟨os,?_⟩
 unfold aby
 rw [hs]
 show (match (boot_heap w.params).isNs dI && _ with | true=>aai p w N (af0 w os) | false=>none)=_
 rw [aiV]
 rfl
noncomputable def Bc (p:aP) (w:World) (n₀:Nat) (ann:Option Value):Nat->SharedT->Pz->Option SharedT
 | 0,_,_=>none
 | n+1,s,t=>match through t with
  | true=>some s
  | false=>match aag n₀ ann t with
   | false=>none
   | true=>match akp (aah afZ) p w s t with
    | some (s',t')=>Bc p w n₀ ann n s' t'
    | none=>none
theorem JH {p:aP} {w:World} {n₀:Nat} {ann:Option Value}:∀ {n:Nat} {s:SharedT} {t:Pz},qy wj p w n₀ ann n s t=Bc p w n₀ ann n s t
 | 0,_,_=>rfl
 | n+1,s,t=>by
  have ih:∀ s t,qy wj p w n₀ ann n s t=Bc p w n₀ ann n s t:=fun _ _=>JH
  rw [Mx] at ih
  unfold qy Bc
  rw [Yr,afY,Ys,Mx]
  cases through t with
  | true=>rfl
  | false =>
   dsimp only
   cases aag n₀ ann t with
   | false=>rfl
   | true =>
    dsimp only
    cases akp (aah afZ) p w s t with
    | none=>rfl
    | some x=>exact ih _ _
noncomputable def af2 (p:aP) (w:World) (N:Nat) (s₀:Shared):Option (Shared × SharedT):=(QG s₀.heap).bind fun T=>(Bc p w s₀.heap.objs.size (s₀.heap.nsMap dI "__annotations__") N ⟨T,s₀.heap.objs.size,s₀.heap.life,s₀.gens,s₀.drawn,s₀.toks,s₀.os⟩ (topStub p)).map fun s₁=>(s₀,s₁)
theorem af3 {p:aP} {w:World} {N:Nat} {s₀:Shared}:aai p w N s₀=af2 p w N s₀:=by
 unfold aai af2
 exact congrArg _ (funext fun T=>congrArg _ JH)
/-- one look,at the quick run -/
def iY (p:aP) (N:Nat) {β:Type} (f:Shared × SharedT->β) (b:World->β):Prop:=∀ (w:World) (os:OsState),(af2 p w N (af0 w os)).map f=some (b w)
noncomputable abbrev tu (p q:aP) (Xt:Shared->Bool) (x:Shared × SharedT):=abz q [] (Iz p.main.body) Xt true x.2.abs
theorem aiW {p q:aP} {Xt:Shared->Bool}:Eu p q Xt=tu p q Xt:=by
 funext x
 unfold Eu tu
 rw [QH]
structure Plain (p:aP) (N:Nat):Prop where
 op:opening p=plainProg p.main.scope.names
 n:Nat.ble 600 N=true
 fe:∀ s,fenceModules? p s=some s
theorem iY.look {p:aP} {N:Nat} {β:Type} {f:Shared × SharedT->β} {b:World->β} (h:iY p N f b) (P:Plain p N):Look p N f b:=fun w=>by
 obtain ⟨os,e⟩:=abA P.op P.n P.fe w
 rw [e,af3]
 exact h w os
/-- what is asked of each look,part by part (not as a part of the whole: the kernel would then hold the wholes against each other) -/
theorem af4 {p q:aP} {Xt:Shared->Bool} {as:List Addr} {Ya:World->List (Option Obj)} {N:Nat} (P:Plain p N)
  (h0:iY p N (okT p) fun _=>true)
  (h1:iY p N (fun x=>(tu p q Xt x).1) fun _=>afa q)
  (h2:iY p N (fun x=>(tu p q Xt x).2.1) fun _=>aeb)
  (h3:iY p N (fun x=>(tu p q Xt x).2.2.1) fun _=>true)
  (h4:iY p N (fun x=>(tu p q Xt x).2.2.2.1) fun _=>true)
  (h5:iY p N (fun x=>(tu p q Xt x).2.2.2.2.1) fun _=>pinGoodD (afj q))
  (h6:iY p N (fun x=>(tu p q Xt x).2.2.2.2.2.1) fun _=>afb q (looseW q []))
  (h7:iY p N (fun x=>(tu p q Xt x).2.2.2.2.2.2.1) fun _=>afc q [])
  (h8:iY p N (fun x=>(tu p q Xt x).2.2.2.2.2.2.2.1) fun _=>wideGood q)
  (h9:iY p N (fun x=>(tu p q Xt x).2.2.2.2.2.2.2.2) fun _=>clsGoodW q [])
  (hY:iY p N (fun x=>afX x.2 as) fun w=>some (Ya w)):LeftO p q [] Xt (fun s=>as.map s.heap.get?) Ya N:=by
 rw [<- aiW] at h1 h2 h3 h4 h5 h6 h7 h8 h9
 refine aiU (h0.look P) (h1.look P) (h2.look P) (h3.look P) (h4.look P) (h5.look P) (h6.look P) (h7.look P) (h8.look P) (h9.look P) fun w=>?_
 obtain ⟨x,e,_⟩:=JD.mp (h0.look P w)
 rw [e]
 exact congrArg some (aaf ((hY.look P).at e))
end My
namespace My
open PySem L2
def top (i:Nat):Stmt:=alp.main.body.getD i (.Pass ⟨0,0,0,0⟩)
abbrev s'0:Stmt:=top 31
abbrev s'1:Stmt:=top 32
abbrev s'2:Stmt:=top 33
abbrev s'3:Stmt:=inClass (top 28) 3
abbrev s'4:Stmt:=inClass (top 28) 2
abbrev s'5:Stmt:=top 30
abbrev s'6:Stmt:=top 29
abbrev s'7:Stmt:=inClass (top 28) 0
abbrev s'8:Stmt:=inClass (top 28) 1
abbrev s'9:Stmt:=top 38
abbrev s'10:Stmt:=inClass (top 37) 0
abbrev s'11:Stmt:=inClass (top 37) 3
abbrev s'12:Stmt:=inClass (top 37) 1
abbrev s'13:Stmt:=inClass (top 37) 2
abbrev s'14:Stmt:=top 16
abbrev s'15:Stmt:=top 17
abbrev s'16:Stmt:=inClass (top 19) 0
abbrev s'17:Stmt:=top 20
abbrev s'18:Stmt:=inClass (top 19) 2
abbrev s'19:Stmt:=inClass (top 19) 1
abbrev s'20:Stmt:=inClass (top 23) 0
abbrev s'21:Stmt:=top 24
abbrev s'22:Stmt:=top 25
abbrev s'23:Stmt:=inClass (top 23) 2
abbrev s'24:Stmt:=inClass (top 23) 1
abbrev s'25:Stmt:=top 10
abbrev s'26:Stmt:=inClass (top 9) 0
abbrev s'27:Stmt:=inClass (top 9) 1
abbrev s'28:Stmt:=inClass (top 9) 2
abbrev s'29:Stmt:=inClass (top 41) 1
abbrev s'30:Stmt:=inClass (top 41) 2
abbrev s'31:Stmt:=inClass (top 41) 3
abbrev s'32:Stmt:=inClass (top 41) 0
abbrev s'33:Stmt:=top 26
abbrev s'34:Stmt:=top 34
abbrev s'35:Stmt:=top 35
abbrev s'36:Stmt:=top 39
abbrev s'37:Stmt:=top 11
abbrev s'38:Stmt:=top 21
abbrev s'39:Stmt:=top 42
abbrev s'40:Stmt:=top 43
abbrev s'41:Stmt:=top 55
abbrev s'42:Stmt:=top 54
abbrev s'43:Stmt:=top 53
abbrev s'44:Stmt:=top 52
abbrev s'45:Stmt:=top 51
abbrev s'46:Stmt:=top 50
abbrev s'47:Stmt:=top 46
abbrev s'48:Stmt:=top 57
abbrev s'49:Stmt:=top 58
abbrev s'50:Stmt:=top 59
abbrev s'51:Stmt:=top 60
abbrev s'52:Stmt:=inClass (top 45) 0
abbrev s'53:Stmt:=inClass (top 45) 1
abbrev s'54:Stmt:=inClass (top 45) 3
abbrev s'55:Stmt:=inClass (top 45) 2
abbrev s'56:Stmt:=inClass (top 45) 4
abbrev s'57:Stmt:=top 62
abbrev s'58:Stmt:=top 63
abbrev s'59:Stmt:=top 64
abbrev s'60:Stmt:=top 65
abbrev s'61:Stmt:=top 66
abbrev s'62:Stmt:=top 61
def LK (K:aW) (n q:Str) (s:Stmt) (f:Addr):Prop:=∃ (oc:Value) (od an:Option Addr) (sl:Array (Option Value)) (kV dc pm cd ct:Value),K.lookup f=some ⟨oc,od,.func (lV n q (kZ s) (jg s) (aG s) .none kV dc pm an cd ct),sl⟩/\Jm K cd q=true/\ux K (.ref f)=true
def GK (K:aW) (n:Str) (s:Stmt) (f:Addr):Prop:=jt K dI n=some (some (.ref f))/\LK K n n s f
def MeK (K:aW) (C:Addr) (n q:Str) (s:Stmt) (f:Addr):Prop:=gK K (.ref C) n=some (some (.ref f))/\Jp K (.ref f)=true/\LK K n q s f
def CK (K:aW) (C:Addr):Prop:=Eh K C Xv=true/\Jk K C=true/\P0 K C=true/\gK K (.ref C) "__setattr__" = some (some (.builtin "object.__setattr__"))/\Qa K C=true/\ux K (.ref C)=true
def NK (K:aW) (C:Addr):List Str->Prop
 | []=>True
 | f::r=>gK K (.ref C) f=some none/\NK K C r
def ZK (K:aW):List Str->Prop
 | []=>True
 | n::r=>jt K dI n=some none/\ZK K r
theorem LK.of {K:aW} {n q:Str} {s:Stmt} {f:Addr} {oc:Value} {od an:Option Addr} {sl:Array (Option Value)} {kV dc pm cd ct:Value} (l:K.lookup f=some ⟨oc,od,.func (lV n q (kZ s) (jg s) (aG s) .none kV dc pm an cd ct),sl⟩) (c:Jm K cd q=true) (k:ux K (.ref f)=true):LK K n q s f:=⟨oc,od,an,sl,kV,dc,pm,cd,ct,l,c,k⟩
theorem GK.of {K:aW} {n:Str} {s:Stmt} {f:Addr} (a:jt K dI n=some (some (.ref f))) (l:LK K n n s f):GK K n s f:=⟨a,l⟩
theorem MeK.of {K:aW} {C:Addr} {n q:Str} {s:Stmt} {f:Addr} (a:gK K (.ref C) n=some (some (.ref f))) (i:Jp K (.ref f)=true) (l:LK K n q s f):MeK K C n q s f:=⟨a,i,l⟩
theorem CK.of {K:aW} {C:Addr} (a:Eh K C Xv=true) (b:Jk K C=true) (c:P0 K C=true) (d:gK K (.ref C) "__setattr__" = some (some (.builtin "object.__setattr__"))) (e:Qa K C=true) (f:ux K (.ref C)=true):CK K C:=⟨a,b,c,d,e,f⟩
theorem NK.nil {K:aW} {C:Addr}:NK K C []:=trivial
theorem NK.cons {K:aW} {C:Addr} {f:Str} {r:List Str} (a:gK K (.ref C) f=some none) (b:NK K C r):NK K C (f::r):=⟨a,b⟩
theorem ZK.nil {K:aW}:ZK K []:=trivial
theorem ZK.cons {K:aW} {f:Str} {r:List Str} (a:jt K dI f=some none) (b:ZK K r):ZK K (f::r):=⟨a,b⟩
abbrev eZ:PySem.W.OpenRow:=Gk.row
def view:PySem.Program:={ eZ.prog with main:={ eZ.prog.main with body:=[top 0,top 2,top 3,top 4,top 5,top 6,top 7,top 9,top 10,top 11,top 13,top 14,top 15,top 16,top 17,top 19,top 20,top 21,top 23,top 24,top 25,top 26,top 28,top 29,top 30,top 31,top 32,top 33,top 34,top 35,top 37,top 38,top 39,top 41,top 42,top 43,top 45,top 46,top 48,top 49,top 50,top 51,top 52,top 53,top 54,top 55,top 57,top 58,top 59,top 60,top 61,top 62,top 63,top 64,top 65,top 66] } }
abbrev yU:Shared->Bool:=fun s=>PySem.W.xlAt view [] s && PySem.W.recOk eZ.records s
theorem seeP:Plain eZ.prog 20000:=⟨by kernel_rfl,by kernel_rfl,by intro s;kernel_rfl⟩
theorem seeW:Gk.wellSaid=true:=by
 rw [al0]
 kernel_rfl
theorem see0:iY eZ.prog 20000 (okT eZ.prog) (fun _=>true):=by intro w os;kernel_rfl
theorem see1:iY eZ.prog 20000 (fun x=>(tu eZ.prog view yU x).1) (fun _=>afa view):=by intro w os;kernel_rfl
theorem see2:iY eZ.prog 20000 (fun x=>(tu eZ.prog view yU x).2.1) (fun _=>aeb):=by intro w os;kernel_rfl
theorem see3:iY eZ.prog 20000 (fun x=>(tu eZ.prog view yU x).2.2.1) (fun _=>true):=by intro w os;kernel_rfl
theorem see4:iY eZ.prog 20000 (fun x=>(tu eZ.prog view yU x).2.2.2.1) (fun _=>true):=by intro w os;kernel_rfl
theorem see5:iY eZ.prog 20000 (fun x=>(tu eZ.prog view yU x).2.2.2.2.1) (fun _=>pinGoodD (afj view)):=by intro w os;kernel_rfl
theorem see6:iY eZ.prog 20000 (fun x=>(tu eZ.prog view yU x).2.2.2.2.2.1) (fun _=>afb view (PySem.W.looseW view [])):=by intro w os;kernel_rfl
theorem see7:iY eZ.prog 20000 (fun x=>(tu eZ.prog view yU x).2.2.2.2.2.2.1) (fun _=>afc view []):=by intro w os;kernel_rfl
theorem see8:iY eZ.prog 20000 (fun x=>(tu eZ.prog view yU x).2.2.2.2.2.2.2.1) (fun _=>PySem.W.wideGood view):=by intro w os;kernel_rfl
theorem see9:iY eZ.prog 20000 (fun x=>(tu eZ.prog view yU x).2.2.2.2.2.2.2.2) (fun _=>PySem.W.clsGoodW view []):=by intro w os;kernel_rfl
def af5 (R:World->aW->(Str->Option Value)->Addr->Prop):Prop:=∀ {w:World} {K:aW} {h:Heap} {mg:Str->Option Value} {fa cX iR iD iG uD fZ iT iz ju zY Ew Ey Ez f'0 f'1 f'2 f'3 f'4 f'5 f'6 f'7 f'8 f'9 SQ Yt Yu Yv abB abC SX abD Yw Yx S5 abE abF Yy Yz abG S6 YB YC YD YF YG S7 abH abI abJ abK abL abM abN abO abP abQ abR abS abT abU abV abW abX abY abZ S8 YH YJ YK YL ab0 ab1 ab2 ab3 af6 QJ:Addr} (X:K.In h) (G:h.Ns dI mg) (hfa:mg "law" = some (.ref fa))
(aaj:jt K dI "Rungs" = some (some (.ref cX))) (wQ:CK K cX) (Bd:NK K cX ["room","total","over","under","turns","least","most","rungs"]) (aak:jt K dI "Window" = some (some (.ref iR))) (tD:CK K iR) (yh:NK K iR ["room","reach","clock","boxes"]) (aal:jt K dI "Distinct" = some (some (.ref iD))) (mQ:CK K iD) (qz:NK K iD ["room","arrivals","level","kept"]) (aam:jt K dI "Frequent" = some (some (.ref iG))) (mR:CK K iG) (qC:NK K iG ["room","total","lost","counts"]) (aan:jt K dI "Balance" = some (some (.ref uD))) (pA:CK K uD) (uE:NK K uD ["span","sums"]) (aao:jt K dI "Keepsake" = some (some (.ref fZ))) (kJ:CK K fZ) (qD:NK K fZ ["room","reach","span","came","went","up","down","window","seen","balance"]) (aap:jt K dI "Shelf" = some (some (.ref iT))) (wR:CK K iT) (Bf:NK K iT ["room","reach","span","many","blocks"]) (qF:gK K (.ref fZ) "__class__" = some (some (.builtin "object.__class__"))) (qG:Ef K (.builtin "object.__class__") "__get__" = some (some (.builtin "getset_descriptor.__get__"))) (qH:Jl K (.builtin "object.__class__")=some true) (qI:jA K fZ (.type "object")=some true) (aaq:jt K dI "Unlike" = some (some (.ref iz))) (aar:jt K dI "OutOfReach" = some (some (.ref ju))) (aas:jt K dI "KeepError" = some (some (.ref zY))) (aat:jt K dI "BadText" = some (some (.ref Ew))) (aau:jt K dI "TooFine" = some (some (.ref Ey))) (aav:jt K dI "TooManyOff" = some (some (.ref Ez))) (iZ:zP K iz [.type "ValueError",.type "Exception",.type "BaseException",.type "object"] "ValueError.__new__" = true) (jh:zP K ju [.type "ValueError",.type "Exception",.type "BaseException",.type "object"] "ValueError.__new__" = true) (gn:jA K iz (.ref zY)=some true) (gq:jA K zY (.type "BaseException")=some true) (gw:wD K (.ref zY)=some (.type "type")) (d9:jA K ju (.ref zY)=some true) (eE:jA K zY (.type "BaseException")=some true) (eF:wD K (.ref zY)=some (.type "type")) (qJ:gK K (.ref iz) "__getattribute__" = some (some (.builtin "BaseException.__getattribute__"))) (qK:gK K (.ref iz) "__getattr__" = some none) (qL:gK K (.ref iz) "__class__" = some (some (.builtin "object.__class__"))) (qM:jA K iz (.type "BaseException")=some true) (qN:jA K iz (.type "object")=some true) (qO:wD K (.ref iz)=some (.type "type")) (qP:jA K iz (.ref iz)=some true) (qQ:Ef K (.builtin "object.__class__") "__get__" = some (some (.builtin "getset_descriptor.__get__"))) (qR:Jl K (.builtin "object.__class__")=some true) (jL:gK K (.ref ju) "__getattribute__" = some (some (.builtin "BaseException.__getattribute__"))) (jM:gK K (.ref ju) "__getattr__" = some none) (jN:gK K (.ref ju) "__class__" = some (some (.builtin "object.__class__"))) (jO:jA K ju (.type "BaseException")=some true) (jP:jA K ju (.type "object")=some true) (jQ:wD K (.ref ju)=some (.type "type")) (jR:jA K ju (.ref ju)=some true) (jT:Ef K (.builtin "object.__class__") "__get__" = some (some (.builtin "getset_descriptor.__get__"))) (jU:Jl K (.builtin "object.__class__")=some true) (cQ:oZ K (.ref ju) (.ref ju)=some true) (fO:oZ K (.ref iz) (.ref iz)=some true) (iI:Jo K (.ref ju) [(.ref Ew),(.ref Ey),(.ref Ez),(.ref iz)]=some false) (oM:Jo K (.ref iz) [(.ref Ew),(.ref Ey),(.ref Ez),(.ref ju)]=some false) (a'0:GK K "with_thing" s'0 f'0) (a'1:GK K "left_behind" s'1 f'1) (a'2:GK K "risen" s'2 f'2) (a'3:MeK K cX "turn" "Rungs.turn" s'3 f'3) (a'4:MeK K cX "settle" "Rungs.settle" s'4 f'4) (a'5:GK K "greater" s'5 f'5) (a'6:GK K "lesser" s'6 f'6) (a'7:MeK K cX "__init__" "Rungs.__init__" s'7 f'7) (a'8:MeK K cX "add" "Rungs.add" s'8 f'8) (a'9:GK K "joined" s'9 f'9) (QK:MeK K iR "__init__" "Window.__init__" s'10 SQ) (S9:MeK K iR "settle" "Window.settle" s'11 Yt) (Tc:MeK K iR "add" "Window.add" s'12 Yu) (Td:MeK K iR "idle" "Window.idle" s'13 Yv) (af7:GK K "spread" s'14 abB) (af8:GK K "mark" s'15 abC) (QL:MeK K iD "__init__" "Distinct.__init__" s'16 SX) (af9:GK K "of_marks" s'17 abD) (Te:MeK K iD "settle" "Distinct.settle" s'18 Yw) (Tf:MeK K iD "add" "Distinct.add" s'19 Yx) (QM:MeK K iG "__init__" "Frequent.__init__" s'20 S5) (aga:GK K "cut_of" s'21 abE) (agb:GK K "lowered" s'22 abF) (Tg:MeK K iG "fit" "Frequent.fit" s'23 Yy) (Ti:MeK K iG "add" "Frequent.add" s'24 Yz) (agc:GK K "with_row" s'25 abG) (QS:MeK K uD "__init__" "Balance.__init__" s'26 S6) (Tj:MeK K uD "put" "Balance.put" s'27 YB) (Tn:MeK K uD "take" "Balance.take" s'28 YC) (Tp:MeK K fZ "put" "Keepsake.put" s'29 YD) (Tq:MeK K fZ "take" "Keepsake.take" s'30 YF) (Tr:MeK K fZ "idle" "Keepsake.idle" s'31 YG) (QT:MeK K fZ "__init__" "Keepsake.__init__" s'32 S7) (agd:GK K "poured_frequent" s'33 abH) (agf:GK K "list_at" s'34 abI) (agg:GK K "poured_rungs" s'35 abJ) (agh:GK K "followed" s'36 abK) (agi:GK K "poured_balance" s'37 abL) (agj:GK K "poured_distinct" s'38 abM) (agk:GK K "empty_like" s'39 abN) (agl:GK K "poured" s'40 abO) (agm:GK K "figures" s'41 abP) (agn:GK K "row" s'42 abQ) (ago:GK K "window_words" s'43 abR) (agp:GK K "rungs_words" s'44 abS) (agq:GK K "frequent_words" s'45 abT) (agr:GK K "written" s'46 abU) (ags:GK K "cover" s'47 abV) (agt:GK K "_law_cell_at" s'48 abW) (agu:GK K "_law_some" s'49 abX) (agv:GK K "_law_many" s'50 abY) (agw:GK K "_law_keepsake" s'51 abZ) (QV:MeK K iT "__init__" "Shelf.__init__" s'52 S8) (Tt:MeK K iT "bare" "Shelf.bare" s'53 YH) (Tv:MeK K iT "stack" "Shelf.stack" s'54 YJ) (Tw:MeK K iT "lay" "Shelf.lay" s'55 YK) (Tz:MeK K iT "between" "Shelf.between" s'56 YL) (agx:GK K "_law_due" s'57 ab0) (agy:GK K "_law_out" s'58 ab1) (agz:GK K "_law_unlike" s'59 ab2) (agA:GK K "_law_run" s'60 ab3) (TF:GK K "law" s'61 af6) (agB:GK K "_law_block" s'62 QJ) (zk:ZK K ["abs","bool","dict","int","isinstance","len","list","max","min","range","reversed","set","sorted","str","zip"]) {aaw:Tok} (QW:jt K dI "MOST" = some (some (.int 1152921504606846976 aaw))) {tE:Tok} (jV:jt K dI "MOST_HALVINGS" = some (some (.int 60 tE))) {TJ:Tok} (Hv:jt K dI "PIECE" = some (some (.int 1000000000000000000000000000000 TJ))) {tG:Tok} (jW:jt K dI "PIECE_FIGURES" = some (some (.int 30 tG))) {Mz:Tok} (Bg:jt K dI "SPREAD" = some (some (.int 770093176312745717 Mz))),
  R w K mg fa
end My
section
open PySem PySem.W PyProof.Rows L2
local macro_rules
  | `(tactic| o_head $H) => `(tactic|
    (refine holds_open (r := My.eZ) (q := My.view) (loose := []) (N := 20000)
        (Xt := My.yU) (XP := XL My.view [])
        (Yf := Hook.obs $H) (Ya := Hook.val $H) (YP := Hook.says $H) ?hl (Hook.of $H) (Hook.keeps $H)
        (fun s e => xl_of s (aeI.mp e).1) XL.keeps
        (by rfl) (by rfl) (by rfl)
        (fun s e => recFacts_of (aeI.mp e).2) (by rfl)
        (by first | assumption | decide +kernel) tb_g%
        ⟨rfl, rfl, rfl, rfl, rfl, by decide +kernel⟩ ?hw ?hc;
     (case hl => exact My.af4 My.seeP My.see0 My.see1 My.see2 My.see3 My.see4 My.see5 My.see6 My.see7 My.see8 My.see9 (by intro w os; kernel_rfl))))
local macro_rules
  | `(tactic| k_is) => `(tactic| first
    | (refine' My.LK.of ?lkl ?lkc ?lkk; (case lkl => k_is); (case lkc => k_is); (case lkk => k_is))
    | (refine' My.GK.of ?gka ?gkl; (case gka => k_is); (case gkl => k_is))
    | (refine' My.MeK.of ?mka ?mki ?mkl; (case mka => k_is); (case mki => k_is); (case mkl => k_is))
    | exact My.NK.nil
    | exact My.ZK.nil
    | (refine' My.NK.cons ?nka ?nkb; (case nka => k_is); (case nkb => k_is))
    | (refine' My.ZK.cons ?zka ?zkb; (case zka => k_is); (case zkb => k_is))
    | (refine' My.CK.of ?ck1 ?ck2 ?ck3 ?ck4 ?ck5 ?ck6; (case ck1 => k_is); (case ck2 => k_is); (case ck3 => k_is); (case ck4 => k_is); (case ck5 => k_is); (case ck6 => k_is))
    | fail)
open My in
set_option maxRecDepth 100000 in
set_option maxHeartbeats 0 in
theorem My.head (R:World->aW->(Str->Option Value)->Addr->Prop) (mk:My.af5 R)
  (wk:∀ {q:aP} {loose:List Str} {XP:(Str->Option Value)->Heap->Prop} {YP:World->Heap->Prop} {d:PB} {K:Ed->aW},Gk.most=some 63->d.params.defaults=[]->(∀ (w:World) (h:Heap),YP w h->(K w.params).In h)->(∀ (w:World) (mg:Str->Option Value) (fa:Addr) (h:Heap),(K w.params).In h->h.Ns dI mg->mg d.name=some (.ref fa)->R w (K w.params) mg fa)->Xh q loose XP YP Gk.row.toRowW d [] (fun f vs=>Pk f vs)):Gk.Holds:=by
 w_on;refine PySem.W.holds_law My.seeW fun said=>?_;k_head;(case hw=>w_witness2)
 k_fill
 refine wk rfl rfl (fun w h Y=>alo Y) ?F
 case F =>
  intro w mg fa h KX G hmg
  refine' mk KX G hmg ?aaj ?wQ ?Bd ?aak ?tD ?yh ?aal ?mQ ?qz ?aam ?mR ?qC ?aan ?pA ?uE ?aao ?kJ ?qD ?aap ?wR ?Bf ?qF ?qG ?qH ?qI ?aaq ?aar ?aas ?aat ?aau ?aav ?iZ ?jh ?gn ?gq ?gw ?d9 ?eE ?eF ?qJ ?qK ?qL ?qM ?qN ?qO ?qP ?qQ ?qR ?jL ?jM ?jN ?jO ?jP ?jQ ?jR ?jT ?jU ?cQ ?fO ?iI ?oM ?a'0 ?a'1 ?a'2 ?a'3 ?a'4 ?a'5 ?a'6 ?a'7 ?a'8 ?a'9 ?QK ?S9 ?Tc ?Td ?af7 ?af8 ?QL ?af9 ?Te ?Tf ?QM ?aga ?agb ?Tg ?Ti ?agc ?QS ?Tj ?Tn ?Tp ?Tq ?Tr ?QT ?agd ?agf ?agg ?agh ?agi ?agj ?agk ?agl ?agm ?agn ?ago ?agp ?agq ?agr ?ags ?agt ?agu ?agv ?agw ?QV ?Tt ?Tv ?Tw ?Tz ?agx ?agy ?agz ?agA ?TF ?agB ?zk ?QW ?jV ?Hv ?jW ?Bg
  (case aaj=>k_is)
  (case wQ=>k_is)
  (case Bd=>k_is)
  (case aak=>k_is)
  (case tD=>k_is)
  (case yh=>k_is)
  (case aal=>k_is)
  (case mQ=>k_is)
  (case qz=>k_is)
  (case aam=>k_is)
  (case mR=>k_is)
  (case qC=>k_is)
  (case aan=>k_is)
  (case pA=>k_is)
  (case uE=>k_is)
  (case aao=>k_is)
  (case kJ=>k_is)
  (case qD=>k_is)
  (case aap=>k_is)
  (case wR=>k_is)
  (case Bf=>k_is)
  (case qF=>k_is)
  (case qG=>k_is)
  (case qH=>k_is)
  (case qI=>k_is)
  (case aaq=>k_is)
  (case aar=>k_is)
  (case aas=>k_is)
  (case aat=>k_is)
  (case aau=>k_is)
  (case aav=>k_is)
  (case iZ=>k_exc)
  (case jh=>k_exc)
  (case gn=>k_is)
  (case gq=>k_is)
  (case gw=>k_is)
  (case d9=>k_is)
  (case eE=>k_is)
  (case eF=>k_is)
  (case qJ=>k_is)
  (case qK=>k_is)
  (case qL=>k_is)
  (case qM=>k_is)
  (case qN=>k_is)
  (case qO=>k_is)
  (case qP=>k_is)
  (case qQ=>k_is)
  (case qR=>k_is)
  (case jL=>k_is)
  (case jM=>k_is)
  (case jN=>k_is)
  (case jO=>k_is)
  (case jP=>k_is)
  (case jQ=>k_is)
  (case jR=>k_is)
  (case jT=>k_is)
  (case jU=>k_is)
  (case cQ=>kit_is)
  (case fO=>kit_is)
  (case iI=>kit_is)
  (case oM=>kit_is)
  (case a'0=>k_is)
  (case a'1=>k_is)
  (case a'2=>k_is)
  (case a'3=>k_is)
  (case a'4=>k_is)
  (case a'5=>k_is)
  (case a'6=>k_is)
  (case a'7=>k_is)
  (case a'8=>k_is)
  (case a'9=>k_is)
  (case QK=>k_is)
  (case S9=>k_is)
  (case Tc=>k_is)
  (case Td=>k_is)
  (case af7=>k_is)
  (case af8=>k_is)
  (case QL=>k_is)
  (case af9=>k_is)
  (case Te=>k_is)
  (case Tf=>k_is)
  (case QM=>k_is)
  (case aga=>k_is)
  (case agb=>k_is)
  (case Tg=>k_is)
  (case Ti=>k_is)
  (case agc=>k_is)
  (case QS=>k_is)
  (case Tj=>k_is)
  (case Tn=>k_is)
  (case Tp=>k_is)
  (case Tq=>k_is)
  (case Tr=>k_is)
  (case QT=>k_is)
  (case agd=>k_is)
  (case agf=>k_is)
  (case agg=>k_is)
  (case agh=>k_is)
  (case agi=>k_is)
  (case agj=>k_is)
  (case agk=>k_is)
  (case agl=>k_is)
  (case agm=>k_is)
  (case agn=>k_is)
  (case ago=>k_is)
  (case agp=>k_is)
  (case agq=>k_is)
  (case agr=>k_is)
  (case ags=>k_is)
  (case agt=>k_is)
  (case agu=>k_is)
  (case agv=>k_is)
  (case agw=>k_is)
  (case QV=>k_is)
  (case Tt=>k_is)
  (case Tv=>k_is)
  (case Tw=>k_is)
  (case Tz=>k_is)
  (case agx=>k_is)
  (case agy=>k_is)
  (case agz=>k_is)
  (case agA=>k_is)
  (case TF=>k_is)
  (case agB=>k_is)
  (case zk=>k_is)
  (case QW=>k_is)
  (case jV=>k_is)
  (case Hv=>k_is)
  (case jW=>k_is)
  (case Bg=>k_is)
end
set_option Elab.async false
set_option linter.all false
set_option maxRecDepth 100000
namespace L2
open PySem PySem.Spec PyProof.Rows
variable {pins:List (Addr × Obj)} {E Q:Value->Shared->Prop} {w:World} {x name qual m:Str} {u:Value} {A:bH} {mg mA:Str->Option Value} {us:List Value} {e tg c l:Expr} {a b C dx it:Addr} {P prog:aP} {k t' i n:Nat} {kindOf:Str->Option zJ} {es:List Expr} {h base h':Heap} {f:Value->Value->Sem Value} {kw:List (Str × Value)} {ps N:List Str} {fd:FuncData} {pl:Sem Bool} {body:List Stmt} {outer:List Env} {ch fp:List Addr} {g':Array GenState} {g:Int->Int->Int} {op:CmpOp} {s':Shared} {scope:Scope} {d':Drawn} {p pos':Pos} {α:Type}
noncomputable abbrev Key:=Sum Int Str
noncomputable def JK:Key->Value->Bool
 | .inl k,v=>Es k v
 | .inr x,v=>afy x v
noncomputable def keyH (w:World):Key->Int
 | .inl k=>hashInt k
 | .inr x=>hashStr w x
theorem fJ:∀ {k:Key} {v:Value},JK k v=true->(∃ i t,k=Sum.inl i/\v=Value.int i t)\/(∃ x t,k=Sum.inr x/\v=Value.str x t)
 | .inl i,v,h=>by
  obtain ⟨t,e⟩:=Value.isInt_shape (k:=i) (v:=v) h
  exact .inl ⟨i,t,rfl,e⟩
 | .inr x,v,h=>by
  obtain ⟨t,e⟩:=Value.isStrOf_shape (x:=x) (v:=v) h
  exact .inr ⟨x,t,rfl,e⟩
theorem ab4 (i:Int) (t:Tok):JK (.inl i) (.int i t)=true:=by simp [JK,Es]
theorem ab5 (x:Str) (t:Tok):JK (.inr x) (.str x t)=true:=by simp [JK,afy]
theorem amP (a b:Int):decide ((Sum.inl a:Key)=Sum.inl b)=(a == b):=by
 by_cases e:a=b
 ·subst e;simp
 ·have h:¬ (Sum.inl a:Key)=Sum.inl b:=fun q=>e (afU q)
  rw [decide_eq_false h]
  exact (beq_eq_false_iff_ne.mpr e).symm
theorem amQ (a b:Str):decide ((Sum.inr a:Key)=Sum.inr b)=decide (a=b):=by
 by_cases e:a=b
 ·subst e;simp
 ·have h:¬ (Sum.inr a:Key)=Sum.inr b:=fun q=>e (Sum.inr.inj q)
  rw [decide_eq_false h,decide_eq_false e]
theorem amR (a:Int) (b:Str):decide ((Sum.inl a:Key)=Sum.inr b)=false:=decide_eq_false (fun q=>nomatch q)
theorem amS (a:Str) (b:Int):decide ((Sum.inr a:Key)=Sum.inl b)=false:=decide_eq_false (fun q=>nomatch q)
noncomputable def dj (prog:aP) (w:World):PySem.KeyKind prog w Key where
 is:=JK
 hash:=keyH w
 inj:=fun v a b ha hb=>by
  rcases fJ ha with ⟨i,t,rfl,rfl⟩ | ⟨x,t,rfl,rfl⟩
  ·rcases fJ hb with ⟨j,u,rfl,e⟩ | ⟨y,u,rfl,e⟩
   ·injection e with e1 _;rw [e1]
   ·exact nomatch e
  ·rcases fJ hb with ⟨j,u,rfl,e⟩ | ⟨y,u,rfl,e⟩
   ·exact nomatch e
   ·injection e with e1 _;rw [e1]
 byValue:=fun k v h=>by
  rcases fJ h with ⟨i,t,rfl,rfl⟩ | ⟨x,t,rfl,rfl⟩ <;> rfl
 pyHash:=fun hv h=>by
  rcases fJ hv with ⟨i,t,rfl,rfl⟩ | ⟨x,t,rfl,rfl⟩
  ·exact wpAny_pyHash_int h
  ·exact wpAny_pyHash_str h
 eqBool:=fun hu hv h=>by
  rcases fJ hu with ⟨i,t,rfl,rfl⟩ | ⟨x,t,rfl,rfl⟩
  ·rcases fJ hv with ⟨j,u,rfl,rfl⟩ | ⟨y,u,rfl,rfl⟩
   ·rw [amP] at h;exact wpAny_eqBool_int h
   ·rw [amR] at h;exact afA i t y u _ _ _ _ h
  ·rcases fJ hv with ⟨j,u,rfl,rfl⟩ | ⟨y,u,rfl,rfl⟩
   ·rw [amS] at h;exact afB x t j u _ _ _ _ h
   ·rw [amQ] at h;exact wpAny_eqBool_str h
 «strs» := fun k x t v h=>by
  rcases fJ h with ⟨i,u,rfl,e⟩ | ⟨y,u,rfl,e⟩
  ·exact nomatch e
  ·injection e with e1 _
   subst e1
   cases v <;> rfl
theorem TQ (prog:aP) (w:World) (i:Int) (t:Tok):(dj prog w).is (.inl i) (.int i t)=true:=ab4 i t
theorem TV (prog:aP) (w:World) (x:Str) (t:Tok):(dj prog w).is (.inr x) (.str x t)=true:=ab5 x t
inductive V where
 | non | bl (b:Bool) | int (i:Int) | str (x:Str) | byt (b:Array UInt8) | flt (b:UInt64) | ref (a:Addr) | ty (n:String)
 deriving DecidableEq
variable {v y:V} {vs xs:List V}
noncomputable def RelV:V->Value->Prop
 | .non,u=>u=Value.none
 | .bl b,u=>u=Value.bool b
 | .int i,u=>∃ t,u=Value.int i t
 | .str x,u=>∃ t,u=Value.str x t
 | .byt b,u=>∃ t,u=Value.bytes b t
 | .flt b,u=>∃ t,u=Value.float b t
 | .ref a,u=>u=Value.ref a
 | .ty n,u=>u=Value.type n
noncomputable abbrev Vals:List V->List Value->Prop:=Paired RelV
theorem Vals.length (r:Vals xs us):xs.length=us.length:=Yo r
theorem Vals.get:∀ {xs:List V} {us:List Value} {i:Nat} {x:V},Vals xs us->xs[i]? = some x->∃ u,us[i]? = some u/\RelV x u
 | _,_,_,_,.nil,e=>by simp at e
 | _,_,0,_,.cons r _,e=>by simp at e;subst e;exact ⟨_,rfl,r⟩
 | _,_,i+1,x,.cons _ t,e=>by
  obtain ⟨u,h1,h2⟩:=Vals.get (i:=i) (x:=x) t (by simpa using e)
  exact ⟨u,by simpa using h1,h2⟩
theorem Vals.set {x:V} (r:RelV x u):∀ {xs:List V} {us:List Value} (i:Nat),Vals xs us->Vals (xs.set i x) (us.set i u)
 | _,_,_,.nil=>.nil
 | _,_,0,.cons _ t=>.cons r t
 | _,_,i+1,.cons q t=>.cons q (Vals.set r i t)
theorem Vals.append:∀ {xs ys:List V} {us ws:List Value},Vals xs us->Vals ys ws->Vals (xs++ys) (us++ws)
 | _,_,_,_,.nil,s=>s
 | _,_,_,_,.cons r t,s=>.cons r (Vals.append t s)
theorem Vals.take:∀ {xs:List V} {us:List Value} (n:Nat),Vals xs us->Vals (xs.take n) (us.take n)
 | _,_,0,_=>.nil
 | _,_,_+1,.nil=>.nil
 | _,_,n+1,.cons r t=>.cons r (Vals.take n t)
theorem Vals.drop:∀ {xs:List V} {us:List Value} (n:Nat),Vals xs us->Vals (xs.drop n) (us.drop n)
 | _,_,0,r=>r
 | _,_,_+1,.nil=>.nil
 | _,_,n+1,.cons _ t=>Vals.drop n t
theorem Vals.none_of:∀ {xs:List V} {us:List Value} {i:Nat},Vals xs us->xs[i]? = none->us[i]? = none:=fun {xs us i} r e=>by
 have h1:=r.length
 have h2:xs.length<=i:=Im.mp e
 exact Im.mpr tb_g%
noncomputable def vO:Option V->Option Value->Prop
 | some v,some u=>RelV v u
 | none,none=>True
 | _,_=>False
noncomputable def KV {κ:Type}:List (κ × V)->List (κ × Value)->Prop:=Paired fun (p:κ × V) (q:κ × Value)=>p.1=q.1/\RelV p.2 q.2
noncomputable def kV:Key->V
 | .inl i=>.int i
 | .inr x=>.str x
inductive HO where
 /-- a list -/
 | lst (xs:List V)
 /-- a tuple (never changes) -/
 | tup (xs:List V)
 /-- a dict whose keys are ints and texts;one whose keys are tuples of ints and texts (the empty one is both) -/
 | dK (kvs:List (Key × V)) | dT (kvs:List (List Key × V))
 /-- a set of ints: its members,its size -/
 | set (S:Int->Bool) (n:Nat)
 /-- an instance of the class at C,its dict at dx,its attributes -/
 | ins (C dx:Addr) (fs:List (Str × V))
 /-- the dict of the instance at x -/
 | own (x:Addr)
 /-- the dict of an exception -/
 | xd (fs:List (Str × V))
 /-- a bound method,f of x -/
 | met (f x:Addr)
 /-- a range object lo,lo+1,.. below hi -/
 | rng (lo hi:Int)
 /-- a thing that is known to the object (the script;a dict while a loop walks it): read,never written while it is so -/
 | frz (o:Obj) (u:HO)
 /-- a code object's table -/
 | tbl (ps:Array Value)
 /-- any other thing,by what is true of its one object (a def of one's own: SetO a S n:=HO.ext fun h=>..) -/
 | ext (φ:Heap->Prop)
variable {o:HO}
noncomputable abbrev Hp:=Addr->Option HO
variable {H H':Hp}
noncomputable def upd (H:Hp) (a:Addr) (o:HO):Hp:=fun b=>if b=a then some o else H b
theorem ak :upd H a o a=some o:=by unfold upd;rw [if_pos rfl]
theorem aA (h:b≠a):upd H a o b=H b:=by unfold upd;rw [if_neg h]
theorem cU {u:HO}:upd (upd H a o) a u=upd H a u:=by
 funext b;unfold upd;split <;> rfl
theorem iw {u:HO} (h:H a=some o) (h':H b=some u) (d:o≠u):a≠b:=by
 intro e;subst e;rw [h] at h';exact d (bW h')
theorem aq (h:H a=some o) (h':H b=none):a≠b:=by
 intro e;subst e;rw [h] at h';cases h'
section
variable (P:aP) (w:World)
noncomputable def dG (H:Hp) (h:Heap) (a:Addr):HO->Prop
 | .lst xs=>xs.length<=sizeLine/\∃ (its:List Value) (n:Nat),Vals xs its/\h.get? a=some { cls:=.type "list",data:=.seq its.toArray n }
 | .tup xs=>xs.length<=sizeLine/\∃ its:List Value,Vals xs its/\IsTup h a its.toArray
 | .dK kvs=>kvs.length<=sizeLine/\(a == rJ)=false/\∃ vs,KV kvs vs/\h.DictOf (dj P w) a vs
 | .dT kvs=>kvs.length<=sizeLine/\(a == rJ)=false/\∃ xs:List (List Key × Addr × Value),
   Paired (fun (p:List Key × V) (q:List Key × Addr × Value)=>p.1=q.1/\H q.2.1=some (.tup (p.1.map kV))/\RelV p.2 q.2.2) kvs xs /\
   ∃ o es ep,h.get? a=some o/\o.ExactDict/\o.data = .dict es ep/\es.toList=xs.map (entryOfKey (Ea (dj P w)))/\(xs.map (·.1)).Nodup
 | .set S n=>h.SetOf (iQ P w) a S n
 | .ins C dx fs=>H dx=some (.own a)/\fs.length<=1000/\dx≠a/\h.get? a=some (wC C dx) /\
   ∃ mA,h.Ns1 dx mA/\(∀ f,vO (fs.lookup f) (mA f))/\Ww mA (fs.map (·.1))
 | .own _=>∃ o,h.get? a=some o
 | .xd fs=>∃ mA,h.Ns1 a mA/\∀ f,vO (fs.lookup f) (mA f)
 | .rng lo hi=>∃ t u v,h.get? a=some { cls:=.type "range",data:=.fields #[.int lo t,.int hi u,.int 1 v] }
 | .frz o u=>h.get? a=some o/\dG H h a u
 | .tbl ps=>h.get? a=some { cls:=.none,data:=.fields ps }
 | .met f x=>h.get? a=some (Xf (.ref f) (.ref x))
 | .ext φ=>φ h/\(∃ o,h.get? a=some o)/\∀ h1 h2:Heap,φ h1->(∀ o,h1.get? a=some o->h2.get? a=some o)->φ h2
noncomputable def HOk (H:Hp) (h:Heap):Prop:=∀ a o,H a=some o->dG P w H h a o
end
theorem dG.lt (x:dG P w H h a o):a<h.objs.size:=by
 cases o with
 | lst xs=>obtain ⟨_,_,_,_,e⟩:=x;exact bR e
 | tup xs=>obtain ⟨_,_,_,p⟩:=x;exact p.lt
 | dK kvs=>obtain ⟨_,_,_,_,o,_,_,e,_⟩:=x;exact bR e
 | dT kvs=>obtain ⟨_,_,_,_,o,_,_,e,_⟩:=x;exact bR e
 | set S n=>obtain ⟨o,_,_,_,e,_⟩:=x;exact bR e
 | ins C dx fs=>obtain ⟨_,_,_,e,_⟩:=x;exact bR e
 | own y=>obtain ⟨_,e⟩:=x;exact bR e
 | xd fs=>obtain ⟨_,⟨_,_,_,e,_⟩,_⟩:=x;exact bR e
 | rng lo hi=>obtain ⟨_,_,_,e⟩:=x;exact bR e
 | frz ob u=>obtain ⟨e,_⟩:=x;exact bR e
 | tbl ps=>exact bR (show h.get? a=some _ from x)
 | met f y=>exact bR (show h.get? a=some _ from x)
 | ext φ=>obtain ⟨_,⟨_,e⟩,_⟩:=x;exact bR e
theorem Paired.mapP {β:Type} {F G:α->β->Prop}:∀ {l₁:List α} {l₂:List β},Paired F l₁ l₂->(∀ a b,F a b->G a b)->Paired G l₁ l₂
 | _,_,.nil,_=>.nil
 | _,_,.cons r t,f=>.cons (f _ _ r) (Paired.mapP t f)
theorem dG.stay (x:dG P w H h a o) (k:∀ b u,(b=a\/H b=some (.own a))->h.get? b=some u->h'.get? b=some u)
  (ho:∀ b,H b=some (.own a)->H' b=some (.own a)) (ht:∀ b xs,H b=some (.tup xs)->H' b=some (.tup xs)):dG P w H' h' a o:=by
 induction o with
 | lst xs=>obtain ⟨z,its,n,r,e⟩:=x;exact ⟨z,its,n,r,k _ _ (.inl rfl) e⟩
 | tup xs=>obtain ⟨z,its,r,ob,e,c⟩:=x;exact ⟨z,its,r,ob,k _ _ (.inl rfl) e,c⟩
 | dK kvs=>obtain ⟨z,y,vs,r,ob,es,ep,e,c⟩:=x;exact ⟨z,y,vs,r,ob,es,ep,k _ _ (.inl rfl) e,c⟩
 | dT kvs =>
  obtain ⟨z,y,xs,r,ob,es,ep,e,c⟩:=x
  exact ⟨z,y,xs,Paired.mapP r fun p q z=>⟨z.1,ht _ _ z.2.1,z.2.2⟩,ob,es,ep,k _ _ (.inl rfl) e,c⟩
 | set S n=>obtain ⟨ob,es,ep,t,e,c⟩:=x;exact ⟨ob,es,ep,t,k _ _ (.inl rfl) e,c⟩
 | ins C dx fs =>
  obtain ⟨d,z,ne,e,mA,⟨od,es,ep,e2,c⟩,r⟩:=x
  exact ⟨ho _ d,z,ne,k _ _ (.inl rfl) e,mA,⟨od,es,ep,k _ _ (.inr d) e2,c⟩,r⟩
 | own y=>obtain ⟨ob,e⟩:=x;exact ⟨ob,k _ _ (.inl rfl) e⟩
 | xd fs=>obtain ⟨mA,⟨od,es,ep,e,c⟩,r⟩:=x;exact ⟨mA,⟨od,es,ep,k _ _ (.inl rfl) e,c⟩,r⟩
 | rng lo hi=>obtain ⟨t,u,v,e⟩:=x;exact ⟨t,u,v,k _ _ (.inl rfl) e⟩
 | frz ob u ih=>obtain ⟨e,q⟩:=x;exact ⟨k _ _ (.inl rfl) e,ih q⟩
 | tbl ps =>
  have e:h.get? a=some { cls:=.none,data:=.fields ps }:=x
  show h'.get? a=some { cls:=.none,data:=.fields ps }
  exact k a _ (.inl rfl) e
 | met f y =>
  have e:h.get? a=some (Xf (.ref f) (.ref y)):=x
  show h'.get? a=some (Xf (.ref f) (.ref y))
  exact k a _ (.inl rfl) e
 | ext φ=>obtain ⟨p,⟨o,e⟩,st⟩:=x;exact ⟨st _ _ p fun o q=>k _ _ (.inl rfl) q,⟨o,k _ _ (.inl rfl) e⟩,st⟩
theorem HOk.lt (x:HOk P w H h) (e:H a=some o):a<h.objs.size:=(x a o e).lt
theorem HOk.fresh (x:HOk P w H h) (e:h.objs.size<=a):H a=none:=by
 cases q:H a with
 | none=>rfl
 | some u=>exact absurd (gk (x.lt q) e) (nF _)
theorem HOk.kept (x:HOk P w H h) (k:∀ b u,h.get? b=some u->h'.get? b=some u):HOk P w H h':=fun a o e =>
 (x a o e).stay (fun b u _ q=>k b u q) (fun _ q=>q) fun _ _ q=>q
theorem HOk.laid (x:HOk P w H h) (k:∀ b u,h.get? b=some u->h'.get? b=some u) (hp:h.objs.size<=a) (new:dG P w (upd H a o) h' a o):HOk P w (upd H a o) h':=fun b u e=>by
 have hn:=x.fresh hp
 by_cases hb:b=a
 ·subst hb;rw [ak] at e;cases e;exact new
 ·rw [aA hb] at e
  exact (x b u e).stay (fun c v _ q=>k c v q) (fun c q=>by rw [aA (aq q hn)];exact q) fun c xs q=>by rw [aA (aq q hn)];exact q
noncomputable def Rd (H:Hp) (a:Addr) (u:HO):Prop:=H a=some u\/∃ o,H a=some (.frz o u)
theorem Rd.ok {u:HO} (r:Rd H a u) (x:HOk P w H h):dG P w H h a u:=by
 rcases r with r | ⟨o,r⟩
 ·exact x a u r
 ·obtain ⟨_,q⟩:=x a _ r
  exact q
noncomputable def Mut:Option HO->Prop
 | some (.lst _)=>True
 | some (.dK _)=>True
 | some (.dT _)=>True
 | some (.set _ _)=>True
 | some (.ins _ _ _)=>True
 | some (.ext _)=>True
 | _=>False
section
variable {x e:Addr} {o':HO}
theorem HOk.write (ok:HOk P w H h) (mu:Mut (H x)) (he:e=x\/H e=some (.own x)) (k:∀ b u,b≠e->h.get? b=some u->h'.get? b=some u) (heo:∃ u,h'.get? e=some u)
  (new:dG P w (upd H x o') h' x o'):HOk P w (upd H x o') h':=fun b u q=>by
 have nown:∀ c y,H c=some (.own y)->c≠x:=fun c y r z=>by subst z;rw [r] at mu;exact mu
 have ntup:∀ c xs,H c=some (.tup xs)->c≠x:=fun c xs r z=>by subst z;rw [r] at mu;exact mu
 by_cases hb:b=x
 ·subst hb;rw [ak] at q;cases q;exact new
 ·rw [aA hb] at q
  by_cases hbe:b=e
  ·have q':H b=some (.own x):=by
    rcases he with z | z
    ·exact absurd (hbe.trans z) hb
    ·rw [hbe];exact z
   rw [q] at q';cases q'
   obtain ⟨v,hv⟩:=heo
   exact ⟨v,by rw [hbe];exact hv⟩
  ·refine (ok b u q).stay (fun c v hc r=>k c v ?_ r) (fun c r=>by rw [aA (nown c b r)];exact r) fun c xs r=>by rw [aA (ntup c xs r)];exact r
   rcases hc with rfl | hc
   ·exact hbe
   ·rintro rfl
    rcases he with z | z
    ·exact nown c b hc z
    ·rw [hc] at z;cases z;exact hb rfl
end
structure Un (fs ex:List Addr) (H H':Hp) (h h':Heap):Prop where
 keep:∀ b o,h.get? b=some o->H b=none->b∉fs->b∉ex->h'.get? b=some o
 slot:∀ b o,h.get? b=some o->H b=none->b∈fs->b∉ex->∃ sl,h'.get? b=some { o with slots:=sl }
 free:∀ b o,h.get? b=some o->H b=none->b∉ex->H' b=none
 there:∀ b o,h.get? b=some o->b∉ex->∃ o',h'.get? b=some o'
 tups:∀ b xs,H b=some (.tup xs)->H' b=some (.tup xs)
 vP:∀ b o u,H b=some (.frz o u)->H' b=some (.frz o u)
 zZ:∀ b ps,H b=some (.tbl ps)->∃ more,H' b=some (.tbl (ps++more))
section
variable {fs fs' ex ex':List Addr} {H1 H2:Hp} {h1 h2:Heap} {x e:Addr}
theorem Un.any (u:Un fs ex H H1 h h1) {ob:Obj} (q:h.get? b=some ob) (n:H b=none) (hx:b∉ex):∃ sl,h1.get? b=some { ob with slots:=sl }:=by
 by_cases hb:b∈fs
 ·exact u.slot b ob q n hb hx
 ·exact ⟨ob.slots,u.keep b ob q n hb hx⟩
theorem Un.kept (k:∀ b u,h.get? b=some u->h'.get? b=some u):Un fs ex H H h h' :=
 ⟨fun b ob q _ _ _=>k b ob q,fun b ob q _ _ _=>⟨ob.slots,k b ob q⟩,fun _ _ _ n _=>n,fun b ob q _=>⟨ob,k b ob q⟩,fun _ _ q=>q,fun _ _ _ q=>q,fun _ ps q=>⟨#[],by rw [q];simp⟩⟩
theorem Un.refl:Un fs ex H H h h:=Un.kept fun _ _ q=>q
theorem Un.laid (k:∀ b u,h.get? b=some u->h'.get? b=some u) (hp:h.objs.size<=a) (hn:H a=none):Un fs ex H (upd H a o) h h' where
 keep:=fun b u q _ _ _=>k b u q
 slot:=fun b u q _ _ _=>⟨u.slots,k b u q⟩
 free:=fun b u q n _=>by rw [aA (cM (gk (bR q) hp))];exact n
 there:=fun b u q _=>⟨u,k b u q⟩
 tups:=fun b xs q=>by rw [aA (aq q hn)];exact q
 vP:=fun b u xs q=>by rw [aA (aq q hn)];exact q
 zZ:=fun b ps q=>⟨#[],by rw [aA (aq q hn),q];simp⟩
theorem Un.write (mu:Mut (H x)) (he:e=x\/H e=some (.own x)) (k:∀ b u,b≠e->h.get? b=some u->h'.get? b=some u) (heo:∃ u,h'.get? e=some u):Un fs ex H (upd H x o) h h':=by
 have hx:∀ b,H b=none->b≠x:=fun b n z=>by subst z;rw [n] at mu;exact mu
 have hb:∀ b,H b=none->b≠e:=fun b n z=>by
  subst z
  rcases he with r | r
  ·exact hx b n r
  ·rw [n] at r;cases r
 have hm:∀ b u,H b=some u->¬ Mut (some u)->b≠x:=fun b u q nm z=>by subst z;rw [q] at mu;exact nm mu
 refine ⟨fun b u q n _ _=>k b u (hb b n) q,fun b u q n _ _=>⟨u.slots,k b u (hb b n) q⟩,fun b u q n _=>by rw [aA (hx b n)];exact n,fun b u q _=>?_,
  fun b xs q=>by rw [aA (hm b _ q fun z=>z)];exact q,fun b u xs q=>by rw [aA (hm b _ q fun z=>z)];exact q,fun b ps q=>⟨#[],by rw [aA (hm b _ q fun z=>z),q];simp⟩⟩
 by_cases hbe:b=e
 ·subst hbe;exact heo
 ·exact ⟨u,k b u hbe q⟩
end
noncomputable def trk (h:Heap) (H:Hp):List Addr:=(oU h.objs.size).filter fun a=>(H a).isSome
noncomputable def QX (h:Heap) (H:Hp):Heap:=aer h (trk h H)
theorem ab6 (h:Heap) (H:Hp):(QX h H).objs.size=h.objs.size:=PySem.W.hideAll_size _ _
theorem agC {o:Obj} (e:h.get? b=some o) (n:H b=none):(QX h H).get? b=some o :=
 Xc _ e fun hm=>by
  have q:(H b).isSome=true:=(rH.mp hm).2
  rw [n] at q;simp at q
theorem aiX {o:Obj} (e:(QX h H).get? b=some o):h.get? b=some o/\H b=none:=by
 have e':h.get? b=some o:=PL (trk h H) e
 refine ⟨e',?_⟩
 cases q:H b with
 | none=>rfl
 | some x =>
  have hm:b∈trk h H:=rH.mpr ⟨OJ.mpr (bR e'),by simp [q]⟩
  have z:(QX h H).get? b=none:=PJ (trk h H) hm
  rw [z] at e;cases e
noncomputable def aiY (g h:Heap) (L:Addr):List (Addr × Obj):=(oU h.objs.size).filterMap fun a=>if a=L\/(g.get? a).isSome=true then none else (h.get? a).map fun o=>(a,o)
noncomputable def rest (g h:Heap) (L d:Addr):List (Addr × Obj):=(aiY g h L).filter fun p=>decide (p.1≠d)
structure Mod (K:aW) (mg:Str->Option Value) (base:Heap):Prop where
 kin:K.In base
 glob:base.Ns dI mg
 blt:∃ mb,base.Ns WL mb/\∀ x:Str,x ≠ "__name__" -> mb x=zE x
 nolimit:base.NoLimit
structure Cx where
 prog:aP
 w:World
 K:aW
 mg:Str->Option Value
 base:Heap
 A:bH
 N:List Str
 s₀:Shared
 H₀:Hp
 env:Env
 outer:List Env
 stack:List Env
 ex:List Addr
 fn:Str->Bool
 calm:Bool
 pn:List (Addr × Obj)
 xe:Value->Shared->Prop
variable {X:Cx}
noncomputable def frs (l:List Env):List Addr:=l.filterMap (·.frame)
noncomputable abbrev Cx.fs (X:Cx):List Addr:=frs X.outer
noncomputable def Vis (sc:Scope) (x:Str):Prop:=sc.names.lookup x=some .local\/sc.names.lookup x=some .cell\/sc.names.lookup x=some .free
noncomputable def Loc (sc:Scope) (x:Str):Prop:=sc.names.lookup x=some .local\/sc.names.lookup x=some .cell
noncomputable def Look (env:Env) (h:Heap) (m:Str->Option Value) (x:Str) (u:Value):Prop :=
 (env.kindOf x=some .local/\m x=some u)\/((env.kindOf x=some .cell\/env.kindOf x=some .free)/\∃ c,env.cells.lookup x=some c/\h.IsCell c (some u))
structure Cx.Ok (X:Cx):Prop where
 mod:Mod X.K X.mg X.base
 kind:X.env.scope.kind = .function
 glob:X.env.globals=dI
 blt:X.env.builtins=WL
 above:X.s₀.heap.objs.size<=X.env.locals
 inj:∀ x y c,X.env.cells.lookup x=some c->X.env.cells.lookup y=some c->x=y
 has:∀ x,(X.env.kindOf x=some .cell\/X.env.kindOf x=some .free)->∃ c,X.env.cells.lookup x=some c
 cab:∀ x c,X.fn x=true->X.env.cells.lookup x=some c->X.s₀.heap.objs.size<=c
 hd:X.calm=true->X.A.handled=none
 frames:X.A.frames=some X.stack
 stk:X.stack=X.outer\/(X.stack=X.env::X.outer/\X.env.frame=some X.env.locals)
 exf:∀ b∈X.ex,b≠X.env.locals/\∀ x c,X.env.cells.lookup x=some c->c≠b
 bs:∀ b o,X.base.get? b=some o->X.s₀.heap.get? b=some o/\X.H₀ b=none
 bsz:X.base.objs.size<=X.s₀.heap.objs.size
 TY:∀ b o,X.base.get? b=some o->b∉X.ex
 ab7:∀ b∈X.ex,b∉X.fs
 z7:X.s₀.heap.FunFrames X.base X.outer
 frf:∀ b∈X.fs,X.H₀ b=none
structure Inv (X:Cx) (pins:List (Addr × Obj)) (σ:List (Option V)) (H:Hp) (s:Shared):Prop where
 ok:X.Ok
 os:s.os=X.s₀.os
 bare:rP s.gens
 base:Un X.fs X.ex X.H₀ H X.s₀.heap s.heap
 loc:∃ m,s.heap.Ns X.env.locals m/\∀ (i:Nat) (x:Str) (v:V),X.N[i]? = some x->σ[i]? = some (some v)->Vis X.env.scope x->∃ u,RelV v u/\Look X.env s.heap m x u
 cell:∀ x c,X.env.cells.lookup x=some c->∃ v,s.heap.IsCell c v
 free:H X.env.locals=none
 oA:∀ x c,X.env.cells.lookup x=some c->H c=none
 pin:∀ p∈X.pn++pins,s.heap.get? p.1=some p.2/\H p.1=none/\p.1≠X.env.locals/\p.1∉X.fs/\∀ v,p.2.data ≠ .cell v
 hok:HOk X.prog X.w H s.heap
 len:σ.length=X.N.length
section
variable {σ:List (Option V)} {s:Shared}
theorem Cx.Ok.nofr (ok:X.Ok) {o:Obj} (e:X.base.get? b=some o):b∉X.fs:=fun hb=>by
 have:=(ok.z7.mem hb).1
 rw [e] at this;cases this
theorem Inv.bs (I:Inv X pins σ H s):∀ b o,X.base.get? b=some o->s.heap.get? b=some o/\H b=none:=fun b o e =>
 ⟨I.base.keep b o (I.ok.bs b o e).1 (I.ok.bs b o e).2 (I.ok.nofr e) (I.ok.TY b o e),I.base.free b o (I.ok.bs b o e).1 (I.ok.bs b o e).2 (I.ok.TY b o e)⟩
theorem Inv.bk (I:Inv X pins σ H s):∀ b o,X.base.get? b=some o->s.heap.get? b=some o:=fun b o e=>(I.bs b o e).1
theorem Inv.mod (I:Inv X pins σ H s):Mod X.K X.mg X.base:=I.ok.mod
theorem Inv.kIn (I:Inv X pins σ H s):X.K.In s.heap:=I.ok.mod.kin.keeps I.bk
theorem Inv.nolimit (I:Inv X pins σ H s):s.heap.NoLimit:=I.ok.mod.nolimit.keeps I.bk
theorem Inv.lt (I:Inv X pins σ H s):X.env.locals<s.heap.objs.size:=let ⟨_,hn,_⟩:=I.loc;hn.lt
theorem Inv.sz (I:Inv X pins σ H s):X.s₀.heap.objs.size<=s.heap.objs.size:=gM I.ok.above (ou I.lt)
theorem Inv.nofs (I:Inv X pins σ H s) (h:s.heap.objs.size<=a):a∉X.fs:=fun hb=>by
 obtain ⟨_,o,ho,_⟩:=I.ok.z7.mem hb
 exact absurd (gk (bR ho) (gM I.sz h)) (nF _)
theorem Inv.cne (I:Inv X pins σ H s):∀ x c,X.env.cells.lookup x=some c->c≠X.env.locals:=fun x c e z=>by
 obtain ⟨v,o,ho,hd⟩:=I.cell x c e
 obtain ⟨m,⟨o',es,ep,ho',hd',_⟩,_⟩:=I.loc
 rw [z,ho'] at ho;cases ho;rw [hd'] at hd;cases hd
theorem Inv.z7 (I:Inv X pins σ H s):s.heap.FunFrames X.base X.outer:=by
 have all:∀ (l:List Env),(∀ b∈frs l,b∈X.fs)->X.s₀.heap.FunFrames X.base l->s.heap.FunFrames X.base l:=by
  intro l
  induction l with
  | nil=>intro _ _;trivial
  | cons env r ih =>
   intro hs hl
   obtain ⟨hk,⟨L,o,hf,hn,ho,hd⟩,hr⟩:=hl
   have hL:L∈X.fs:=hs L (by unfold frs;rw [Gj,hf];exact eN)
   obtain ⟨sl,e⟩:=I.base.slot L o ho (I.ok.frf L hL) hL fun z=>I.ok.ab7 L z hL
   exact ⟨hk,⟨L,_,hf,hn,e,hd⟩,ih (fun b hb=>hs b (by unfold frs;rw [Gj,hf];exact fB _ hb)) hr⟩
 exact all X.outer (fun _ hb=>hb) I.ok.z7
theorem Inv.stack (I:Inv X pins σ H s):s.heap.FunFrames X.base X.stack:=by
 rcases I.ok.stk with e | ⟨e,hf⟩
 ·rw [e];exact I.z7
 ·rw [e]
  obtain ⟨m,hn,_⟩:=I.loc
  refine .cons (by rw [I.ok.kind];decide) hf hn ?_ I.z7
  exact Xj (gM I.ok.bsz I.ok.above)
theorem Inv.wU (I:Inv X pins σ H s):∀ b∈frs X.stack,b∈X.env.locals::X.fs:=fun b hb=>by
 rcases I.ok.stk with e | ⟨e,hf⟩
 ·rw [e] at hb;exact fB _ hb
 ·rw [e] at hb
  unfold frs at hb
  rw [Gj,hf] at hb
  exact hb
theorem Inv.yj (I:Inv X pins σ H s):∀ b∈frs X.stack,H b=none:=fun b hb=>by
 rcases cP.mp (I.wU b hb) with e | hb
 ·rw [e];exact I.free
 ·obtain ⟨_,o,ho,_⟩:=I.ok.z7.mem hb
  exact I.base.free b o ho (I.ok.frf b hb) fun z=>I.ok.ab7 b z hb
theorem Inv.step (I:Inv X pins σ H s)
  (hch:∀ b∈ch,(b∈X.ex\/X.s₀.heap.objs.size<=b)/\b≠X.env.locals/\(∀ x c,X.env.cells.lookup x=some c->c≠b)/\∀ p∈X.pn++pins,p.1≠b)
  (keep:∀ b o,b≠X.env.locals->b∉X.fs->b∉ch->s.heap.get? b=some o->H b=none->h'.get? b=some o)
  (slot:∀ b o,b≠X.env.locals->b∈X.fs->b∉ch->s.heap.get? b=some o->H b=none->∃ sl,h'.get? b=some { o with slots:=sl }) (free:∀ b o,b∉ch->s.heap.get? b=some o->H b=none->H' b=none)
  (there:∀ b o,b∉ch->s.heap.get? b=some o->∃ o',h'.get? b=some o')
  (tups:∀ b xs,H b=some (.tup xs)->H' b=some (.tup xs)) (vP:∀ b o u,H b=some (.frz o u)->H' b=some (.frz o u)) (zZ:∀ b ps,H b=some (.tbl ps)->∃ more,H' b=some (.tbl (ps++more)))
  (ns:∀ m,s.heap.Ns X.env.locals m->h'.Ns X.env.locals m) (hok:HOk X.prog X.w H' h') (hg:rP g') :
  Inv X pins σ H' { s with heap:=h',gens:=g',drawn:=d',toks:=t' }:=by
 have neL:∀ b o,X.s₀.heap.get? b=some o->b≠X.env.locals:=fun b o e=>cM (gk (bR e) I.ok.above)
 have neC:∀ b o,X.s₀.heap.get? b=some o->b∉X.ex->b∉ch:=fun b o e hx hb=>by
  rcases (hch b hb).1 with z | z
  ·exact hx z
  ·exact absurd (gk (bR e) z) (nF _)
 have cellK:∀ x c,X.env.cells.lookup x=some c->∀ v,s.heap.IsCell c v->h'.IsCell c v:=fun x c e v ⟨o,ho,hd⟩=>by
  have nch:c∉ch:=fun z=>(hch c z).2.2.1 x c e rfl
  by_cases hc:c∈X.fs
  ·obtain ⟨sl,q⟩:=slot c o (I.cne x c e) hc nch ho (I.oA x c e)
   exact ⟨_,q,hd⟩
  ·exact ⟨o,keep c o (I.cne x c e) hc nch ho (I.oA x c e),hd⟩
 refine ⟨I.ok,I.os,hg,⟨fun b o e n hb hx=>?_,fun b o e n hb hx=>?_,fun b o e n hx=>?_,fun b o e hx=>?_,fun b xs e=>tups b xs (I.base.tups b xs e),fun b o xs e=>vP b o xs (I.base.vP b o xs e),fun b ps e=>?_⟩,?_,fun x c e=>?_,?_,fun x c e=>?_,fun p hp=>?_,hok,I.len⟩
 ·exact keep b o (neL b o e) hb (neC b o e hx) (I.base.keep b o e n hb hx) (I.base.free b o e n hx)
 ·obtain ⟨sl,e1⟩:=I.base.slot b o e n hb hx
  obtain ⟨sl',e2⟩:=slot b _ (neL b o e) hb (neC b o e hx) e1 (I.base.free b o e n hx)
  exact ⟨sl',e2⟩
 ·obtain ⟨o',e1⟩:=I.base.there b o e hx
  exact free b o' (neC b o e hx) e1 (I.base.free b o e n hx)
 ·obtain ⟨o',e1⟩:=I.base.there b o e hx
  exact there b o' (neC b o e hx) e1
 ·obtain ⟨m1,e1⟩:=I.base.zZ b ps e
  obtain ⟨m2,e2⟩:=zZ b _ e1
  exact ⟨m1++m2,by rw [e2,Array.append_assoc]⟩
 ·obtain ⟨m,hn,hl⟩:=I.loc
  refine ⟨m,ns m hn,fun i x v e1 e2 e3=>?_⟩
  obtain ⟨u,r,l⟩:=hl i x v e1 e2 e3
  refine ⟨u,r,?_⟩
  rcases l with l | ⟨k,c,e,z⟩
  ·exact .inl l
  ·exact .inr ⟨k,c,e,cellK x c e _ z⟩
 ·obtain ⟨v,z⟩:=I.cell x c e
  exact ⟨v,cellK x c e v z⟩
 ·obtain ⟨m,⟨o,_,_,ho,_⟩,_⟩:=I.loc
  exact free _ o (fun z=>(hch _ z).2.1 rfl) ho I.free
 ·obtain ⟨v,o,ho,hd⟩:=I.cell x c e
  exact free c o (fun z=>(hch c z).2.2.1 x c e rfl) ho (I.oA x c e)
 ·obtain ⟨e,n,ne,nf,d⟩:=I.pin p hp
  have nch:p.1∉ch:=fun z=>(hch p.1 z).2.2.2 p hp rfl
  exact ⟨keep p.1 p.2 ne nf nch e n,free p.1 p.2 nch e n,ne,nf,d⟩
theorem Inv.un (I:Inv X pins σ H s) (u:Un X.fs [] H H' s.heap h') (hok:HOk X.prog X.w H' h'):Inv X pins σ H' { s with heap:=h',toks:=t' }:=by
 obtain ⟨m,⟨o,es,ep,ho,r⟩,_⟩:=id I.loc
 obtain ⟨sl,hL⟩:=u.any ho I.free (by simp)
 exact I.step (g':=s.gens) (d':=s.drawn) (ch:=[]) (fun _ z=>nomatch z) (fun b o _ hb _ e n=>u.keep b o e n hb (by simp)) (fun b o _ hb _ e n=>u.slot b o e n hb (by simp)) (fun b o _ e n=>u.free b o e n (by simp)) (fun b o _ e=>u.there b o e (by simp)) u.tups u.vP u.zZ (fun m' hm=>by
  obtain ⟨o',es',ep',ho',r'⟩:=hm
  rw [ho] at ho';cases ho'
  exact ⟨_,es',ep',hL,r'⟩) hok I.bare
theorem Inv.call (I:Inv X pins σ H s) (u:Un (frs X.stack) ch H H' s.heap h') (hok:HOk X.prog X.w H' h') (hg:rP g')
  (hch:∀ b∈ch,(b∈X.ex\/X.s₀.heap.objs.size<=b)/\b≠X.env.locals/\(∀ x c,X.env.cells.lookup x=some c->c≠b)/\∀ p∈X.pn++pins,p.1≠b) :
  Inv X pins σ H' { s with heap:=h',gens:=g',drawn:=d',toks:=t' }:=by
 obtain ⟨m,⟨o,es,ep,ho,r⟩,_⟩:=id I.loc
 obtain ⟨sl,hL⟩:=u.any ho I.free fun z=>(hch _ z).2.1 rfl
 exact I.step (ch:=ch) hch (fun b o hL hb hc e n=>u.keep b o e n (fun z=>(cP.mp (I.wU b z)).elim hL hb) hc) (fun b o _ _ hc e n=>u.any e n hc) (fun b o hc e n=>u.free b o e n hc) (fun b o hc e=>u.there b o e hc) u.tups u.vP u.zZ (fun m' hm=>by
  obtain ⟨o',es',ep',ho',r'⟩:=hm
  rw [ho] at ho';cases ho'
  exact ⟨_,es',ep',hL,r'⟩) hok hg
theorem Inv.turned (I:Inv X pins σ H s) (k:∀ b o,b≠it->s.heap.get? b=some o->h'.get? b=some o) (hn:H it=none) (hL:it≠X.env.locals)
  (h1:it∈X.ex\/X.s₀.heap.objs.size<=it) (h2:∀ x c,X.env.cells.lookup x=some c->c≠it) (h3:∀ p∈X.pn++pins,p.1≠it):Inv X pins σ H { s with heap:=h',toks:=t' }:=by
 have nit:∀ b u,H b=some u->b≠it:=fun b u e z=>by rw [z,hn] at e;cases e
 refine I.step (g':=s.gens) (d':=s.drawn) (ch:=[it]) (fun b hb=>?_) (fun b o _ _ hc e _=>k b o (fun z=>hc (by simp [z])) e) (fun b o _ _ hc e _=>⟨o.slots,k b o (fun z=>hc (by simp [z])) e⟩) (fun _ _ _ _ n=>n)
  (fun b o hc e=>⟨o,k b o (fun z=>hc (by simp [z])) e⟩) (fun _ _ e=>e) (fun _ _ _ e=>e) (fun b ps e=>⟨#[],by rw [e];simp⟩) (fun m hm=>?_) (fun b u e=>?_) I.bare
 ·have e:b=it:=by simpa using hb
  subst e
  exact ⟨h1,hL,h2,h3⟩
 ·obtain ⟨o,es,ep,ho,r⟩:=hm
  exact ⟨o,es,ep,k _ o (aU hL) ho,r⟩
 ·refine (I.hok b u e).stay (fun c v hc q=>k c v ?_ q) (fun _ q=>q) fun _ _ q=>q
  rcases hc with z | z
  ·rw [z];exact nit b u e
  ·exact nit c _ z
theorem Inv.tok (I:Inv X pins σ H s) (t:Nat):Inv X pins σ H { s with toks:=t }:=I.un (h':=s.heap) (t':=t) Un.refl I.hok
theorem Inv.kept (I:Inv X pins σ H s) (k:∀ b u,s.heap.get? b=some u->h'.get? b=some u):Inv X pins σ H { s with heap:=h',toks:=t' }:=I.un (Un.kept k) (I.hok.kept k)
theorem Inv.laid (I:Inv X pins σ H s) (k:∀ b u,s.heap.get? b=some u->h'.get? b=some u) (hp:s.heap.objs.size<=a) (new:dG X.prog X.w (upd H a o) h' a o) :
  Inv X pins σ (upd H a o) { s with heap:=h',toks:=t' }:=I.un (Un.laid k hp (I.hok.fresh hp)) (I.hok.laid k hp new)
theorem Inv.write {x e:Addr} (I:Inv X pins σ H s) (mu:Mut (H x)) (he:e=x\/H e=some (.own x)) (k:∀ b u,b≠e->s.heap.get? b=some u->h'.get? b=some u) (heo:∃ u,h'.get? e=some u)
  (new:dG X.prog X.w (upd H x o) h' x o):Inv X pins σ (upd H x o) { s with heap:=h',toks:=t' }:=I.un (Un.write mu he k heo) (I.hok.write mu he k heo new)
theorem Inv.aax {aay:List (Addr × Obj)} (I:Inv X pins σ H s) (h:∀ p∈aay,s.heap.get? p.1=some p.2/\H p.1=none/\p.1≠X.env.locals/\p.1∉X.fs/\∀ v,p.2.data ≠ .cell v):Inv X aay σ H s :=
 ⟨I.ok,I.os,I.bare,I.base,I.loc,I.cell,I.free,I.oA,fun p hp=>(cR.mp hp).elim (fun z=>I.pin p (Ot _ z)) (h p),I.hok,I.len⟩
theorem JL (hN:N.Nodup) {j:Nat} (a:N[i]? = some x) (b:N[j]? = some x):i=j:=by
 obtain ⟨h1,e1⟩:=gH.mp a
 obtain ⟨h2,e2⟩:=gH.mp b
 exact (List.getElem_inj hN).mp (e1.trans e2.symm)
theorem MF {M:Model} {Q:Unit->Shared->Prop} (I:Inv X pins σ H s) (hN:X.N.Nodup) (hi:X.N[i]? = some x) (hx:Loc X.env.scope x) (r:RelV v u)
  (h:∀ s',Inv X pins (σ.set i (some v)) H s'->(∃ a,wG a s.heap s'.heap/\(a=X.env.locals\/X.env.cells.lookup x=some a))->Q () s') (hf:X.fn x=true\/X.env.scope.names.lookup x=some .local:=by first | exact .inl rfl | exact .inr rfl | assumption):wpAny M A (storeName X.env x u) Q E s:=by
 obtain ⟨m,hn,hl⟩:=id I.loc
 have hcls:(X.env.scope.kind == .class || (X.env.scope.kind == .module && X.env.locals != X.env.globals))=false:=by rw [I.ok.kind];rfl
 have hiσ:i<σ.length:=by rw [I.len];exact (gH.mp hi).1
 have cne:=I.cne
 have tracked:∀ {a:Addr} {h':Heap},(∃ o,s.heap.get? a=some o/\H a=none)->wG a s.heap h'->HOk X.prog X.w H h':=fun {a h'} ha hs b ob e=>by
  obtain ⟨_,_,hfree⟩:=ha
  refine (I.hok b ob e).stay (fun c w' hc q=>(hs.2 c ?_).trans q) (fun _ q=>q) fun _ _ q=>q
  rintro rfl
  rcases hc with rfl | hc
  ·rw [hfree] at e;cases e
  ·rw [hfree] at hc;cases hc
 rcases hx with hk | hk
 ·refine wpAny_storeName_local hk hn (fun h' hn' hs=>?_) hcls
  obtain ⟨oL,_,_,hoL,_⟩:=id hn
  refine h _ ⟨I.ok,I.os,I.bare,⟨fun b o e n hb hx=>?_,fun b o e n hb hx=>?_,I.base.free,fun b o e hx=>?_,I.base.tups,I.base.vP,I.base.zZ⟩,⟨_,hn',fun j y v' e1 e2 e3=>?_⟩,fun y c e=>?_,I.free,I.oA,fun p hp=>?_,tracked ⟨oL,hoL,I.free⟩ hs,by simpa using I.len⟩ ⟨_,hs,.inl rfl⟩
  ·exact (hs.2 b (cM (gk (bR e) I.ok.above))).trans (I.base.keep b o e n hb hx)
  ·obtain ⟨sl,e1⟩:=I.base.slot b o e n hb hx
   exact ⟨sl,(hs.2 b (cM (gk (bR e) I.ok.above))).trans e1⟩
  ·obtain ⟨o',e1⟩:=I.base.there b o e hx
   exact ⟨o',(hs.2 b (cM (gk (bR e) I.ok.above))).trans e1⟩
  ·by_cases hj:j=i
   ·subst hj
    rw [hi] at e1;cases e1
    rw [Gi hiσ] at e2
    cases e2
    exact ⟨u,r,.inl ⟨hk,by simp⟩⟩
   ·rw [Av (aU hj)] at e2
    obtain ⟨u',r',q⟩:=hl j y v' e1 e2 e3
    refine ⟨u',r',?_⟩
    rcases q with ⟨k,e⟩ | ⟨k,c,e,z⟩
    ·refine .inl ⟨k,?_⟩
     have:y≠x:=fun e=>hj (JL hN e1 (e ▸ hi))
     simp [this,e]
    ·exact .inr ⟨k,c,e,z.sameBut hs (cne y c e)⟩
  ·obtain ⟨w',z⟩:=I.cell y c e
   exact ⟨w',z.sameBut hs (cne y c e)⟩
  ·obtain ⟨e,n,ne,nf,d⟩:=I.pin p hp
   exact ⟨(hs.2 p.1 ne).trans e,n,ne,nf,d⟩
 ·have hfn:X.fn x=true:=by
   rcases hf with z | z
   ·exact z
   ·rw [z] at hk;cases hk
  obtain ⟨c,hc⟩:=I.ok.has x (.inl hk)
  obtain ⟨w',z⟩:=I.cell x c hc
  refine wpAny_storeName_cell I.ok.kind hk hc z (fun h' hc' hs=>?_)
  obtain ⟨oc,hoc,hocd⟩:=id z
  refine h { s with heap:=h' } ⟨I.ok,I.os,I.bare,⟨fun b o e n hb hx=>?_,fun b o e n hb hx=>?_,I.base.free,fun b o e hx=>?_,I.base.tups,I.base.vP,I.base.zZ⟩,⟨m,hn.sameBut hs (aU (cne x c hc)),fun j y v' e1 e2 e3=>?_⟩,fun y c' e=>?_,I.free,I.oA,fun p hp=>?_,tracked ⟨oc,hoc,I.oA x c hc⟩ hs,by simpa using I.len⟩ ⟨c,hs,.inr hc⟩
  ·exact (hs.2 b (cM (gk (bR e) (I.ok.cab x c hfn hc)))).trans (I.base.keep b o e n hb hx)
  ·obtain ⟨sl,e1⟩:=I.base.slot b o e n hb hx
   exact ⟨sl,(hs.2 b (cM (gk (bR e) (I.ok.cab x c hfn hc)))).trans e1⟩
  ·obtain ⟨o',e1⟩:=I.base.there b o e hx
   exact ⟨o',(hs.2 b (cM (gk (bR e) (I.ok.cab x c hfn hc)))).trans e1⟩
  ·by_cases hj:j=i
   ·subst hj
    rw [hi] at e1;cases e1
    rw [Gi hiσ] at e2
    cases e2
    exact ⟨u,r,.inr ⟨.inl hk,c,hc,hc'⟩⟩
   ·rw [Av (aU hj)] at e2
    obtain ⟨u',r',q⟩:=hl j y v' e1 e2 e3
    refine ⟨u',r',?_⟩
    rcases q with q | ⟨k,c',e,z'⟩
    ·exact .inl q
    ·refine .inr ⟨k,c',e,z'.sameBut hs ?_⟩
     rintro rfl
     exact hj (JL hN e1 (I.ok.inj _ _ _ e hc ▸ hi))
  ·by_cases hcc:c'=c
   ·subst hcc;exact ⟨_,hc'⟩
   ·obtain ⟨w2,z2⟩:=I.cell y c' e
    exact ⟨w2,z2.sameBut hs hcc⟩
  ·obtain ⟨e,n,ne,nf,d⟩:=I.pin p hp
   refine ⟨(hs.2 p.1 ?_).trans e,n,ne,nf,d⟩
   intro q
   rw [q,hoc] at e
   have q':oc=p.2:=bW e
   exact d w' (by rw [<- q'];exact hocd)
theorem JM {M:Model} {Q:Unit->Shared->Prop} (I:Inv X pins σ H s) (hN:X.N.Nodup) (hi:X.N[i]? = some x) (hx:Loc X.env.scope x) (r:RelV v u)
  (h:∀ s',Inv X pins (σ.set i (some v)) H s'->Q () s') (hf:X.fn x=true\/X.env.scope.names.lookup x=some .local:=by first | exact .inl rfl | exact .inr rfl | assumption):wpAny M A (storeName X.env x u) Q E s :=
 MF I hN hi hx r (fun s' I' _=>h s' I') hf
theorem Inv.call' (I:Inv X pins σ H s) (ho:s'.os=s.os) (u:Un (frs X.stack) ch H H' s.heap s'.heap) (hok:HOk X.prog X.w H' s'.heap) (hg:rP s'.gens)
  (hch:∀ b∈ch,(b∈X.ex\/X.s₀.heap.objs.size<=b)/\b≠X.env.locals/\(∀ x c,X.env.cells.lookup x=some c->c≠b)/\∀ p∈X.pn++pins,p.1≠b):Inv X pins σ H' s':=by
 obtain ⟨h',g',d',t',o'⟩:=s'
 have e:o'=s.os:=ho
 subst e
 exact I.call (g':=g') (t':=t') (d':=d') u hok hg hch
end
noncomputable abbrev XK:=Value->Option Addr->Hp->Prop
noncomputable abbrev St:=List (Option V)
variable {σ:St}
noncomputable abbrev VK:=V->Hp->Prop
noncomputable abbrev TE:=St->Hp->VK->Prop
variable {te ta tl:TE}
noncomputable abbrev TT:=St->Hp->(Bool->Hp->Prop)->Prop
variable {tc:TT}
noncomputable abbrev TA:=St->Hp->(List V->Hp->Prop)->Prop
variable {t:TA}
structure Ends where
 nx:St->Hp->Prop
 rt:VK
 bk:St->Hp->Prop:=fun _ _=>False
 ct:St->Hp->Prop:=fun _ _=>False
variable {D:Ends}
noncomputable abbrev TS:=Ends->St->Hp->Prop
variable {tb:TS}
noncomputable def EP (X:Cx) (pins:List (Addr × Obj)) (σ:St) (Q:VK) (u:Value) (s':Shared):Prop:=∃ v H',Inv X pins σ H' s'/\RelV v u/\Q v H'
noncomputable def TP (X:Cx) (pins:List (Addr × Obj)) (σ:St) (Q:Bool->Hp->Prop) (b:Bool) (s':Shared):Prop:=∃ H',Inv X pins σ H' s'/\Q b H'
noncomputable def AP (X:Cx) (pins:List (Addr × Obj)) (σ:St) (Q:List V->Hp->Prop) (us:List Value) (s':Shared):Prop:=∃ vs H',Inv X pins σ H' s'/\Vals vs us/\Q vs H'
noncomputable def SP (X:Cx) (pins:List (Addr × Obj)) (D:Ends) (f:Flow) (s':Shared):Prop :=
 match f with
 | .next=>∃ σ' H',Inv X pins σ' H' s'/\D.nx σ' H'
 | .brk=>∃ σ' H',Inv X pins σ' H' s'/\D.bk σ' H'
 | .cont=>∃ σ' H',Inv X pins σ' H' s'/\D.ct σ' H'
 | .ret u=>∃ v σ' H',Inv X pins σ' H' s'/\RelV v u/\D.rt v H'
noncomputable def PE (X:Cx) (e:Expr) (t:TE):Prop :=
 ∀ (pins:List (Addr × Obj)) (s:Shared) (σ:St) (H:Hp) (Q:VK),Inv X pins σ H s->t σ H Q->wpAny (model X.prog X.w) X.A (eval e X.env) (EP X pins σ Q) X.xe s
noncomputable def PT (X:Cx) (e:Expr) (t:TT):Prop :=
 ∀ (pins:List (Addr × Obj)) (s:Shared) (σ:St) (H:Hp) (Q:Bool->Hp->Prop),Inv X pins σ H s->t σ H Q->wpAny (model X.prog X.w) X.A (Ji e X.env (eval e X.env)) (TP X pins σ Q) X.xe s
noncomputable def PW (X:Cx) (e:Expr) (t:TT):Prop :=
 ∀ (whole:Sem Value) (pins:List (Addr × Obj)) (s:Shared) (σ:St) (H:Hp) (Q:Bool->Hp->Prop),Inv X pins σ H s->t σ H Q->wpAny (model X.prog X.w) X.A (Ji e X.env whole) (TP X pins σ Q) X.xe s
theorem PW.pt {t:TT} (h:PW X e t):PT X e t:=h _
noncomputable def PA (X:Cx) (es:List Expr) (t:TA):Prop :=
 ∀ (pos:Pos) (pins:List (Addr × Obj)) (s:Shared) (σ:St) (H:Hp) (Q:List V->Hp->Prop),Inv X pins σ H s->t σ H Q->wpAny (model X.prog X.w) X.A (spliced (gh pos (cO es X.env))) (AP X pins σ Q) X.xe s
noncomputable def PS (X:Cx) (st:Stmt) (t:TS):Prop :=
 ∀ (pins:List (Addr × Obj)) (s:Shared) (σ:St) (H:Hp) (D:Ends),Inv X pins σ H s->t D σ H->wpAny (model X.prog X.w) X.A (exec st X.env) (SP X pins D) X.xe s
noncomputable def PSs (X:Cx) (st:List Stmt) (t:TS):Prop :=
 ∀ (pins:List (Addr × Obj)) (s:Shared) (σ:St) (H:Hp) (D:Ends),Inv X pins σ H s->t D σ H->wpAny (model X.prog X.w) X.A (execs st X.env) (SP X pins D) X.xe s
theorem thn {t:Sem α} {Q Q':α->Shared->Prop} {M:Model} {s:Shared} (h:wpAny M A t Q E s) (hQ:∀ a s,Q a s->Q' a s):wpAny M A t Q' E s:=eO h hQ fun _ _ x=>x
section
@[reducible] noncomputable def tVar (i:Nat):TE:=fun σ H Q=>∃ v,σ[i]? = some (some v)/\Q v H
@[reducible] noncomputable def tC (v:V):TE:=fun _ H Q=>Q v H
theorem amT {pos:Pos} (hN:X.N[i]? = some x) (hv:Vis X.env.scope x) (hd:(x == ("__debug__" : Str))=false:=by decide) (hcd:(x == ("__classdict__" : Str))=false:=by decide):PE X (.Name x pos) (tVar i):=by
 walk_at "e"
 obtain ⟨v,e,h⟩:=h
 obtain ⟨m,hn,hl⟩:=I.loc
 obtain ⟨u,r,l⟩:=hl i x v hN e hv
 have fin:EP X pins σ Q u s:=⟨v,H,I,r,h⟩
 rcases l with ⟨hk,hm⟩ | ⟨hk,c,hc,hcell⟩
 ·exact WM (wpAny_loadName_local I.ok.kind hk hn hm fin) hd
 ·rcases hk with hk | hk
  ·exact WM (wpAny_loadName_cell I.ok.kind hk hc hcell fin) hd
  ·exact WM (wpAny_loadName_free I.ok.kind hk hc hcell fin hcd) hd
theorem aB {i j pos}:PE X (.Constant (.int i) j pos) (tC (.int i)):=fun _ _ _ H _ I h=>wpAny_Constant_int ⟨.int i,H,I.tok _,⟨_,rfl⟩,h⟩
theorem JN {b j pos}:PE X (.Constant (.bool b) j pos) (tC (.bl b)):=fun _ _ _ H _ I h=>afm ⟨.bl b,H,I,rfl,h⟩
theorem lW {j pos}:PE X (.Constant .none j pos) (tC .non):=fun _ _ _ H _ I h=>afn ⟨.non,H,I,rfl,h⟩
theorem gF {x j pos}:PE X (.Constant (.str x) j pos) (tC (.str x)):=fun _ _ _ H _ I h=>Calls.Constant_str ⟨.str x,H,I.tok _,⟨_,rfl⟩,h⟩
noncomputable def Gl (X:Cx) (x:Str):Prop:=X.env.kindOf x=some .globalImplicit
theorem Bh {s:Shared} {pos:Pos} (I:Inv X pins σ H s) (hg:Gl X x) (hm:X.mg x=some u) (h:Q u s)
  (hd:(x == ("__debug__" : Str))=false:=by decide):wpAny (model X.prog X.w) X.A (eval (.Name x pos) X.env) Q E s :=
 afq I.ok.kind hg (Calls.loadGlobal_global (by rw [I.ok.glob];exact I.mod.glob.keeps I.bk) hm h) hd
theorem nG {s:Shared} {pos:Pos} (I:Inv X pins σ H s) (hg:Gl X x) (hm:X.mg x=none) (hv:zE x=some u) (h:Q u s)
  (hn:x ≠ "__name__" := by decide) (hd:(x == ("__debug__" : Str))=false:=by decide):wpAny (model X.prog X.w) X.A (eval (.Name x pos) X.env) Q E s:=by
 obtain ⟨mb,h1,h2⟩:=I.mod.blt
 exact afq I.ok.kind hg (Calls.loadGlobal_builtin (by rw [I.ok.glob];exact I.mod.glob.keeps I.bk) hm (by rw [I.ok.blt];exact h1.keeps I.bk) ((h2 x hn).trans hv) h) hd
theorem fW {pos:Pos} (hg:Gl X x) (hm:X.mg x=some u) (r:RelV v u) (hd:(x == ("__debug__" : Str))=false:=by decide):PE X (.Name x pos) (tC v) :=
 fun _ _ _ H _ I h=>Bh I hg hm ⟨v,H,I,r,h⟩ hd
theorem aiZ {pos:Pos} (hg:Gl X x) (hm:X.mg x=none) (hv:zE x=some u) (r:RelV v u) (hn:x ≠ "__name__" := by decide) (hd:(x == ("__debug__" : Str))=false:=by decide):PE X (.Name x pos) (tC v) :=
 fun _ _ _ H _ I h=>nG I hg hm hv ⟨v,H,I,r,h⟩ hn hd
variable {a b:Expr} {tb:TE} {pos:Pos}
@[reducible] noncomputable def tB (t:TE):TT:=fun σ H Q=>t σ H fun x H1=>∃ c,x = .bl c/\Q c H1
theorem EY {t:TE} (h:PE X e t) (he:∀ whole,Ji e X.env whole=(do let v <- whole;Je e.pos;wz [v] (truthy v)):=by intro _;rfl):PT X e (tB t):=by
 intro pins s σ H Q I hw
 refine isTrue_plain (thn (h pins s σ H _ I hw) fun v s1 ⟨x,H1,I1,r1,q1⟩=>?_) (he _)
 obtain ⟨d,rfl,q⟩:=q1
 cases r1
 exact Dz ⟨H1,I1,q⟩
variable {tA tB':TT} {rest:List Expr}
@[reducible] noncomputable def tAnd (t u:TT):TT:=fun σ H Q=>t σ H fun c H1=>if c=true then u σ H1 Q else Q false H1
@[reducible] noncomputable def tOr (t u:TT):TT:=fun σ H Q=>t σ H fun c H1=>if c=true then Q true H1 else u σ H1 Q
@[reducible] noncomputable def tNot (t:TT):TT:=fun σ H Q=>t σ H fun c H1=>Q (!c) H1
theorem pw_and1 (ha:PT X a tA):PW X (.BoolOp .And [a] pos) tA:=by
 intro wh pins s σ H Q I h
 refine isTrue_and (thn (ha pins s σ H Q I h) fun c s1 e=>?_)
 cases c with
 | true=>exact isTrue_and_nil e
 | false=>exact e
theorem pw_or1 (ha:PT X a tA):PW X (.BoolOp .Or [a] pos) tA:=by
 intro wh pins s σ H Q I h
 refine isTrue_or (thn (ha pins s σ H Q I h) fun c s1 e=>?_)
 cases c with
 | false=>exact isTrue_or_nil e
 | true=>exact e
theorem pw_and (ha:PT X a tA) (hb:PW X (.BoolOp .And (b::rest) pos) tB'):PW X (.BoolOp .And (a::b::rest) pos) (tAnd tA tB'):=by
 intro wh pins s σ H Q I h
 refine isTrue_and (thn (ha pins s σ H _ I h) fun c s1 ⟨H1,I1,q1⟩=>?_)
 cases c with
 | true=>exact hb wh pins s1 σ H1 Q I1 q1
 | false=>exact ⟨H1,I1,q1⟩
theorem pw_or (ha:PT X a tA) (hb:PW X (.BoolOp .Or (b::rest) pos) tB'):PW X (.BoolOp .Or (a::b::rest) pos) (tOr tA tB'):=by
 intro wh pins s σ H Q I h
 refine isTrue_or (thn (ha pins s σ H _ I h) fun c s1 ⟨H1,I1,q1⟩=>?_)
 cases c with
 | true=>exact ⟨H1,I1,q1⟩
 | false=>exact hb wh pins s1 σ H1 Q I1 q1
theorem QZ (ha:PT X a tA):PT X (.UnaryOp .Not a pos) (tNot tA):=by
 walk_at "e"
 exact isTrue_not (ha pins s σ H (fun c H1=>Q (!c) H1) I h)
@[reducible] noncomputable def tAndV (ta tb:TE):TE:=fun σ H Q=>ta σ H fun x H1=>∃ c,x = .bl c/\if c=true then tb σ H1 Q else Q (.bl false) H1
@[reducible] noncomputable def tOrV (ta tb:TE):TE:=fun σ H Q=>ta σ H fun x H1=>∃ c,x = .bl c/\if c=true then Q (.bl true) H1 else tb σ H1 Q
@[reducible] noncomputable def tNotV (ta:TE):TE:=fun σ H Q=>ta σ H fun x H1=>∃ c,x = .bl c/\Q (.bl (!c)) H1
theorem JQ {op} {t:TE} (h:PE X a t):PE X (.BoolOp op [a] pos) t:=fun pins s σ H Q I hw=>BoolOp_one (h pins s σ H Q I hw)
theorem JR (ha:PE X a ta) (hb:PE X (.BoolOp .And (b::rest) pos) tb):PE X (.BoolOp .And (a::b::rest) pos) (tAndV ta tb):=by
 walk_at "e"
 refine BoolOp_and (thn (ha pins s σ H _ I h) fun v s1 ⟨x,H1,I1,r1,q1⟩=>?_)
 obtain ⟨c,rfl,q1⟩:=q1
 cases r1
 refine Dz ?_
 cases c with
 | true=>exact hb pins s1 σ H1 Q I1 q1
 | false=>exact ⟨.bl false,H1,I1,rfl,q1⟩
theorem pe_or (ha:PE X a ta) (hb:PE X (.BoolOp .Or (b::rest) pos) tb):PE X (.BoolOp .Or (a::b::rest) pos) (tOrV ta tb):=by
 walk_at "e"
 refine BoolOp_or (thn (ha pins s σ H _ I h) fun v s1 ⟨x,H1,I1,r1,q1⟩=>?_)
 obtain ⟨c,rfl,q1⟩:=q1
 cases r1
 refine Dz ?_
 cases c with
 | false=>exact hb pins s1 σ H1 Q I1 q1
 | true=>exact ⟨.bl true,H1,I1,rfl,q1⟩
theorem agD (ha:PE X a ta):PE X (.UnaryOp .Not a pos) (tNotV ta):=by
 walk_at "e"
 refine UnaryOp_ (thn (ha pins s σ H _ I h) fun v s1 ⟨x,H1,I1,r1,q1⟩=>?_)
 obtain ⟨c,rfl,q1⟩:=q1
 cases r1
 exact not_of (Dz ⟨.bl (!c),H1,I1,rfl,q1⟩)
noncomputable def tIf (t:TT) (ta tb:TE):TE:=fun σ H Q=>t σ H fun c H1=>if c=true then ta σ H1 Q else tb σ H1 Q
theorem T5 (hc:PT X c tA) (ha:PE X a ta) (hb:PE X b tb):PE X (.IfExp c a b pos) (tIf tA ta tb):=by
 walk_at "e"
 refine wpAny_IfExp (thn (hc pins s σ H _ I h) fun d s1 ⟨H1,I1,q1⟩=>?_)
 cases d with
 | true=>exact ha pins s1 σ H1 Q I1 q1
 | false=>exact hb pins s1 σ H1 Q I1 q1
end
noncomputable def SqL (K:aW) (H:Hp) (a:Addr) (xs:List V):Prop :=
 Rd H a (.lst xs) \/
  ∃ (o:Obj) (its:Array Value) (n:Nat),K.lookup a=some o/\o.cls = .type "list" /\ o.dict=none/\o.data = .seq its n/\its.size<=sizeLine/\Vals xs its.toList
noncomputable def SqT (K:aW) (H:Hp) (a:Addr) (xs:List V):Prop :=
 Rd H a (.tup xs) \/
  ∃ (o:Obj) (its:Array Value) (n:Nat),K.lookup a=some o/\o.cls = .type "tuple" /\ o.data = .seq its n/\its.size<=sizeLine/\Vals xs its.toList
noncomputable def absV:Value->Option V
 | .none=>some .non
 | .bool b=>some (.bl b)
 | .int i _=>some (.int i)
 | .str x _=>some (.str x)
 | .bytes b _=>some (.byt b)
 | .float b _=>some (.flt b)
 | .ref a=>some (.ref a)
 | .type n=>some (.ty n)
 | _=>none
theorem RelV.abs {x:V} (r:RelV x u):absV u=some x:=by
 cases x with
 | non=>cases r;rfl
 | bl _=>cases r;rfl
 | int _=>obtain ⟨t,rfl⟩:=r;rfl
 | str _=>obtain ⟨t,rfl⟩:=r;rfl
 | byt _=>obtain ⟨t,rfl⟩:=r;rfl
 | flt _=>obtain ⟨t,rfl⟩:=r;rfl
 | ref _=>cases r;rfl
 | ty _=>cases r;rfl
theorem RelV.inj {x:V} (r:RelV x u) (q:RelV y u):x=y:=bW (r.abs.symm.trans q.abs)
theorem Vals.inj:∀ {xs ys:List V} {us:List Value},Vals xs us->Vals ys us->xs=ys
 | _,_,_,.nil,.nil=>rfl
 | _,_,_,.cons r t,.cons r' t'=>by rw [r.inj r',Vals.inj t t']
section
variable {s:Shared} {ys:List V}
theorem Inv.list (I:Inv X pins σ H s) (h:SqL X.K H a xs):∃ its:List Value,Vals xs its/\PlainL s.heap a its.toArray/\xs.length<=sizeLine:=by
 rcases h with h | ⟨o,its,n,hk,hc,hd,hs,hz,r⟩
 ·obtain ⟨z,its,n,r,e⟩:=h.ok I.hok
  exact ⟨its,r,⟨_,n,e,rfl,rfl,rfl⟩,z⟩
 ·refine ⟨its.toList,r,⟨o,n,I.kIn a o hk,hc,hd,by simpa using hs⟩,?_⟩
  have e:=r.length
  simp only [qx] at e
  lia
theorem Inv.tuple (I:Inv X pins σ H s) (h:SqT X.K H a xs):∃ its:List Value,Vals xs its/\IsTup s.heap a its.toArray/\xs.length<=sizeLine:=by
 rcases h with h | ⟨o,its,n,hk,hc,hs,hz,r⟩
 ·obtain ⟨z,its,r,p⟩:=h.ok I.hok
  exact ⟨its,r,p,z⟩
 ·refine ⟨its.toList,r,⟨o,I.kIn a o hk,hc,n,by simpa using hs⟩,?_⟩
  have e:=r.length
  simp only [qx] at e
  lia
theorem Inv.T6 (I:Inv X pins σ H s) (h:SqL X.K H a xs) (h':SqL X.K H a ys):xs=ys:=by
 obtain ⟨its,r,⟨o,n,e,_,_,d⟩,_⟩:=I.list h
 obtain ⟨its',r',⟨o',n',e',_,_,d'⟩,_⟩:=I.list h'
 rw [e] at e';cases e'
 rw [d] at d'
 injection d' with d1 _
 have:its=its':=by simpa using congrArg ae7 d1
 subst this
 exact r.inj r'
theorem Inv.ab8 (I:Inv X pins σ H s) (h:SqT X.K H a xs) (h':SqT X.K H a ys):xs=ys:=by
 obtain ⟨its,r,⟨o,e,_,n,d⟩,_⟩:=I.tuple h
 obtain ⟨its',r',⟨o',e',_,n',d'⟩,_⟩:=I.tuple h'
 rw [e] at e';cases e'
 rw [d] at d'
 injection d' with d1 _
 have:its=its':=by simpa using congrArg ae7 d1
 subst this
 exact r.inj r'
end
noncomputable abbrev Cx.wish (X:Cx) (E:Value->Shared->Prop):Cx:={ X with xe:=E }
noncomputable abbrev Cx.nox (X:Cx):Cx:=X.wish fun _ _=>False
theorem Cx.Ok.wish (ok:X.Ok) (E:Value->Shared->Prop):(X.wish E).Ok :=
 ⟨ok.mod,ok.kind,ok.glob,ok.blt,ok.above,ok.inj,ok.has,ok.cab,ok.hd,ok.frames,ok.stk,ok.exf,ok.bs,ok.bsz,ok.TY,ok.ab7,ok.z7,ok.frf⟩
theorem Cx.Ok.lg (ok:(X.wish E).Ok):X.Ok :=
 ⟨ok.mod,ok.kind,ok.glob,ok.blt,ok.above,ok.inj,ok.has,ok.cab,ok.hd,ok.frames,ok.stk,ok.exf,ok.bs,ok.bsz,ok.TY,ok.ab7,ok.z7,ok.frf⟩
section
variable {s:Shared}
theorem Inv.wish (I:Inv X pins σ H s) (E:Value->Shared->Prop):Inv (X.wish E) pins σ H s:=⟨I.ok.wish E,I.os,I.bare,I.base,I.loc,I.cell,I.free,I.oA,I.pin,I.hok,I.len⟩
theorem Inv.lg (I:Inv (X.wish E) pins σ H s):Inv X pins σ H s:=⟨I.ok.lg,I.os,I.bare,I.base,I.loc,I.cell,I.free,I.oA,I.pin,I.hok,I.len⟩
theorem SP.lg {f:Flow} (h:SP (X.wish E) pins D f s'):SP X pins D f s':=by
 cases f with
 | next=>obtain ⟨σ',H',I,q⟩:=h;exact ⟨σ',H',I.lg,q⟩
 | brk=>obtain ⟨σ',H',I,q⟩:=h;exact ⟨σ',H',I.lg,q⟩
 | cont=>obtain ⟨σ',H',I,q⟩:=h;exact ⟨σ',H',I.lg,q⟩
 | ret u=>obtain ⟨v,σ',H',I,r,q⟩:=h;exact ⟨v,σ',H',I.lg,r,q⟩
theorem PE.nox {t:TE} (h:PE X.nox e t):PE X e t:=fun pins s σ H Q I hw =>
 eO (h pins s σ H Q (I.wish _) hw) (fun _ _ ⟨v,H',I',r,q⟩=>⟨v,H',I'.lg,r,q⟩) fun _ _ z=>kY z
theorem PT.nox {t:TT} (h:PT X.nox e t):PT X e t:=fun pins s σ H Q I hw =>
 eO (h pins s σ H Q (I.wish _) hw) (fun _ _ ⟨H',I',q⟩=>⟨H',I'.lg,q⟩) fun _ _ z=>kY z
theorem PSs.nox {st:List Stmt} {t:TS} (h:PSs X.nox st t):PSs X st t:=fun pins s σ H D I hw =>
 eO (h pins s σ H D (I.wish _) hw) (fun _ _ q=>q.lg) fun _ _ z=>kY z
end
section
variable {st:Stmt} {rest:List Stmt} {t u:TS} {pos:Pos}
@[reducible] noncomputable def akq:TS:=fun D σ H=>D.nx σ H
@[reducible] noncomputable def tSeq (t u:TS):TS:=fun D σ H=>t { D with nx:=u D } σ H
theorem cG:PSs X [] akq:=fun _ _ σ H _ I h=>DQ ⟨σ,H,I,h⟩
theorem ao (h1:PS X st t) (h2:PSs X rest u):PSs X (st::rest) (tSeq t u):=by
 intro pins s σ H D I h
 refine Wq (thn (h1 pins s σ H { D with nx:=u D } I h) fun f s1 q=>?_)
 cases f with
 | next =>
  obtain ⟨σ',H',I',q⟩:=q
  exact h2 pins s1 σ' H' D I' q
 | ret v=>exact q
 | brk=>exact q
 | cont=>exact q
theorem aC (h1:PS X st t):PSs X [st] t:=by
 intro pins s σ H D I h
 refine Wq (thn (h1 pins s σ H D I h) fun f s1 q=>?_)
 cases f with
 | next=>exact DQ q
 | ret v=>exact q
 | brk=>exact q
 | cont=>exact q
theorem Inv.quiet {s:Shared} (I:Inv X pins σ H s):interactive X.env=false:=by simp [interactive,I.ok.kind]
@[reducible] noncomputable def tDrop (te:TE):TS:=fun D σ H=>te σ H fun _ H1=>D.nx σ H1
theorem bC (he:PE X e te) (hs:Eb e none pos.line X.env=pure false:=by rfl):PS X (.Expr e pos) (tDrop te):=by
 intro pins s σ H D I h
 exact ad5 (thn (he pins s σ H _ I h) fun v s1 ⟨x,H1,I1,r1,q1⟩=>⟨σ,H1,I1,q1⟩) I.quiet hs
@[reducible] noncomputable def tRet (te:TE):TS:=fun D σ H=>te σ H D.rt
theorem bQ (he:PE X e te):PS X (.Return (some e) pos) (tRet te):=by
 intro pins s σ H D I h
 exact wpAny_Return_some (thn (he pins s σ H _ I h) fun v s1 ⟨x,H1,I1,r1,q1⟩=>⟨x,σ,H1,I1,r1,q1⟩)
@[reducible] noncomputable def tIfS (c:TT) (t u:TS):TS:=fun D σ H=>c σ H fun b H1=>if b=true then t D σ H1 else u D σ H1
theorem dO {a b:List Stmt} (hc:PT X c tc) (ha:PSs X a t) (hb:PSs X b u):PS X (.If c a b pos) (tIfS tc t u):=by
 intro pins s σ H D I h
 refine wpAny_If (thn (hc pins s σ H _ I h) fun d s1 ⟨H1,I1,q1⟩=>?_)
 cases d with
 | true=>exact ha pins s1 σ H1 D I1 q1
 | false=>exact hb pins s1 σ H1 D I1 q1
end
noncomputable abbrev TG:=V->St->Hp->(St->Hp->Prop)->Prop
noncomputable abbrev TGs:=List V->St->Hp->(St->Hp->Prop)->Prop
noncomputable def PG (X:Cx) (target:Expr) (t:TG):Prop :=
 ∀ (pins:List (Addr × Obj)) (s:Shared) (σ:St) (H:Hp) (v:V) (u:Value) (Q:St->Hp->Prop),Inv X pins σ H s->RelV v u->t v σ H Q ->
  wpAny (model X.prog X.w) X.A (rK target X.env u) (fun _ s'=>∃ σ' H',Inv X pins σ' H' s'/\Q σ' H') X.xe s
noncomputable def PGs (X:Cx) (ts:List Expr) (t:TGs):Prop :=
 ∀ (pins:List (Addr × Obj)) (s:Shared) (σ:St) (H:Hp) (vs:List V) (us:List Value) (Q:St->Hp->Prop),Inv X pins σ H s->Vals vs us->t vs σ H Q ->
  wpAny (model X.prog X.w) X.A (assignInOrder ((DY ts X.env).map (·.2)) us) (fun _ s'=>∃ σ' H',Inv X pins σ' H' s'/\Q σ' H') X.xe s
noncomputable abbrev TSet:=V->V->V->Hp->(Hp->Prop)->Prop
noncomputable def PSet (X:Cx) (t:TSet):Prop :=
 ∀ (pins:List (Addr × Obj)) (s:Shared) (σ:St) (H:Hp) (o i v:V) (ov iv u:Value) (Q:Hp->Prop),Inv X pins σ H s->RelV o ov->RelV i iv->RelV v u->t o i v H Q ->
  wpAny (model X.prog X.w) X.A (setItem ov iv u) (fun _ s'=>∃ H',Inv X pins σ H' s'/\Q H') X.xe s
section
variable {pos:Pos}
@[reducible] noncomputable def vB (i:Nat):TG:=fun v σ H Q=>Q (σ.set i (some v)) H
theorem Hw (hN:X.N.Nodup) (hi:X.N[i]? = some x) (hx:Loc X.env.scope x) (hf:X.fn x=true\/X.env.scope.names.lookup x=some .local:=by first | exact .inl rfl | exact .inr rfl | assumption):PG X (.Name x pos) (vB i):=by
 intro pins s σ H v u Q I r h
 exact adZ (JM I hN hi hx r (fun s' I'=>⟨_,H,I',h⟩) hf)
noncomputable def gNil:TGs:=fun vs σ H Q=>vs=[]/\Q σ H
noncomputable def JT (t:TG) (u:TGs):TGs:=fun vs σ H Q=>∃ v r,vs=v::r/\t v σ H fun σ' H'=>u r σ' H' Q
theorem Hx:PGs X [] gNil:=by
 intro pins s σ H vs us Q I r h
 obtain ⟨e,h⟩:=h
 subst e
 cases r
 exact assignInOrder_nil ⟨σ,H,I,h⟩
theorem mU {t:TG} {u:TGs} (h1:PG X e t) (h2:PGs X es u)
  (hs:(DY (e::es) X.env).map (·.2)=rK e X.env::(DY es X.env).map (·.2):=by rfl):PGs X (e::es) (JT t u):=by
 intro pins s σ H vs us Q I r h
 obtain ⟨v,vr,e1,h⟩:=h
 subst e1
 cases r with
 | cons r rr =>
  rw [hs]
  refine assignInOrder_cons (thn (h1 pins s σ H _ _ _ I r h) fun _ s1 ⟨σ1,H1,I1,q1⟩=>?_)
  exact h2 pins s1 σ1 H1 _ _ Q I1 rr q1
noncomputable def gTup (K:aW) (n:Nat) (t:TGs):TG:=fun v σ H Q=>∃ a xs,v = .ref a/\SqT K H a xs/\xs.length=n/\t xs σ H Q
theorem Q0 {t:TGs} (hc:X.calm=true) (h:PGs X es t)
  (hn:(DY es X.env).length=n:=by rfl) (hst:(DY es X.env).findIdx? (·.1)=none:=by rfl):PG X (.Tuple es k pos) (gTup X.K n t):=by
 intro pins s σ H v u Q I r hw
 obtain ⟨a,xs,e1,hq,hl,hw⟩:=hw
 subst e1
 cases r
 obtain ⟨its,rv,ht,hz⟩:=I.tuple hq
 refine assign_Tuple_tuple (I.ok.hd hc) ht (by simp [hn,<- hl,rv.length]) hst fun h' hx=>?_
 have I1:Inv X pins σ H { s with heap:=h' }:=I.kept (t':=s.toks) fun b o e=>hx b o (cM (bR e)) e
 exact h pins _ σ H xs _ Q I1 (by simpa using rv) hw
@[reducible] noncomputable def gSub (to ti:TE) (t:TSet):TG:=fun v σ H Q=>to σ H fun o H1=>ti σ H1 fun i H2=>t o i v H2 fun H3=>Q σ H3
theorem Fb {o i:Expr} {to ti:TE} {t:TSet} (ho:PE X o to) (hi:PE X i ti) (hs:PSet X t)
  (ha:∀ v,rK (.Subscript o i pos) X.env v=(do
   let ov <- wz [v] (eval o X.env)
   let iv <- wz [v,ov] (eval i X.env)
   Je pos
   wz [v,ov,iv] (setItem ov iv v)
   release [v,ov,iv] []):=by intro _;rfl):PG X (.Subscript o i pos) (gSub to ti t):=by
 intro pins s σ H v u Q I r h
 rw [ha]
 refine aJ (oh (thn (ho pins s σ H _ I h) fun ov s1 ⟨x,H1,I1,r1,q1⟩=>?_))
 refine aJ (oh (thn (hi pins s1 σ H1 _ I1 q1) fun iv s2 ⟨y,H2,I2,r2,q2⟩=>?_))
 refine aJ (Wu (aJ (oh (thn (hs pins s2 σ H2 x y v ov iv u _ I2 r1 r2 r q2) fun _ s3 ⟨H3,I3,q3⟩=>?_))))
 exact wpAny_release ⟨σ,H3,I3,q3⟩
@[reducible] noncomputable def tAsg (te:TE) (g:TG):TS:=fun D σ H=>te σ H fun x H1=>g x σ H1 D.nx
theorem Fd {g:TG} (he:PE X e te) (hg:PG X tg g) (hs:swapsWithSole [tg] e pos.line X.env=pure false:=by rfl) (hw:swappedStores [tg] e X.env=pure none:=by rfl)
  (h1:(DY [tg] X.env).map (·.2)=[rK tg X.env]:=by rfl):PS X (.Assign [tg] e pos) (tAsg te g):=by
 intro pins s σ H D I h
 refine wpAny_Assign_stores (thn (he pins s σ H _ I h) fun v s1 ⟨x,H1,I1,r1,q1⟩=>?_) hs hw
 rw [h1]
 exact thn (hg pins s1 σ H1 x v _ I1 r1 q1) fun _ s2 q=>q
theorem agE (hN:X.N.Nodup) (hi:X.N[i]? = some x) (hx:Loc X.env.scope x) (he:PE X e te) (hs:Eb e (some (.Name x pos')) pos.line X.env=pure false:=by rfl) (hf:X.fn x=true\/X.env.scope.names.lookup x=some .local:=by first | exact .inl rfl | exact .inr rfl | assumption) :
  PS X (.Assign [.Name x pos'] e pos) (tAsg te (vB i)):=by
 intro pins s σ H D I h
 refine wpAny_Assign_Name (thn (he pins s σ H _ I h) fun v s1 ⟨y,H1,I1,r1,q1⟩=>?_) hs
 exact JM I1 hN hi hx r1 (fun s2 I2=>⟨_,H1,I2,q1⟩) hf
noncomputable def z8 (c:TT) (tb:TS):TS:=fun D σ H=>∃ W:Nat->St->Hp->Prop,(∃ m,W m σ H)/\∀ m σ H,W m σ H ->
 c σ H fun b H1=>if b=true then ∃ N:St->Hp->Prop,(∀ σ' H',N σ' H'->∃ m',m'<m/\W m' σ' H')/\tb { D with nx:=N,ct:=N,bk:=D.nx } σ H1 else D.nx σ H1
theorem jD (hp:WY (model X.prog X.w) X.A X.env X.xe) (hc:PT X c tc) (hb:PSs X body tb):PS X (.While c body [] pos) (z8 tc tb):=by
 intro pins s σ H D I h
 obtain ⟨W,⟨m0,w0⟩,turn⟩:=h
 refine wpAny_While (codeAny_whileLoop (fun n s'=>∃ σ' H',Inv X pins σ' H' s'/\W n σ' H') ?_ m0 ⟨σ,H,I,w0⟩)
 rintro n s1 ⟨σ1,H1,I1,w1⟩
 refine zB hp (thn (hc pins s1 σ1 H1 _ I1 (turn n σ1 H1 w1)) fun b s2 ⟨H2,I2,q2⟩=>?_)
 cases b with
 | true =>
  obtain ⟨N,hN,q2⟩:=q2
  rw [if_pos rfl]
  refine zB hp (thn (hb pins s2 σ1 H2 _ I2 q2) fun f s3 q3=>?_)
  cases f with
  | next =>
   obtain ⟨σ3,H3,I3,n3⟩:=q3
   obtain ⟨m',hm,w3⟩:=hN σ3 H3 n3
   exact ⟨m',hm,σ3,H3,I3,w3⟩
  | cont =>
   obtain ⟨σ3,H3,I3,n3⟩:=q3
   obtain ⟨m',hm,w3⟩:=hN σ3 H3 n3
   exact ⟨m',hm,σ3,H3,I3,w3⟩
  | brk=>exact q3
  | ret v=>exact q3
 | false =>
  rw [if_neg gO]
  exact DQ ⟨σ1,H2,I2,q2⟩
end
structure It where
 go:Nat->Hp->Prop
 yld:Nat->Hp->V->Hp->Prop
 stop:Nat->Hp->Prop
noncomputable def yL (X:Cx) (pins:List (Addr × Obj)) (H:Hp) (b:Addr):Prop :=
 H b=none/\b≠X.env.locals/\b∉X.fs/\(b∈X.ex\/X.s₀.heap.objs.size<=b)/\(∀ x c,X.env.cells.lookup x=some c->c≠b)/\∀ p∈X.pn++pins,p.1≠b
theorem Inv.ab9 {s:Shared} (I:Inv X pins σ H s) (hb:s.heap.objs.size<=b) (hn:H' b=none):yL X pins H' b:=by
 refine ⟨hn,o9 (gk I.lt hb),I.nofs hb,.inr (gM I.sz hb),fun x c e z=>?_,fun p hp z=>?_⟩
 ·obtain ⟨v,q⟩:=I.cell x c e
  exact absurd (gk q.lt (by rw [z];exact hb)) (nF _)
 ·exact absurd (gk (bR (I.pin p hp).1) (by rw [z];exact hb)) (nF _)
structure Turn (P:aP) (w:World) (K:aW) (tg:Expr) (J:It) (fp:List Addr) (it:Addr) (tn:Nat->Heap->Prop):Prop where
 mem:it∈fp
 obj:∀ i h,tn i h->∀ b∈fp,∃ o,h.get? b=some o/\∀ v,o.data ≠ .cell v
 keep:∀ i h h',tn i h->(∀ b∈fp,∀ o,h.get? b=some o->h'.get? b=some o)->tn i h'
 item:∀ (X:Cx),X.prog=P->X.w=w->X.K=K->X.calm=true->∀ (i:Nat) (pins:List (Addr × Obj)) (s:Shared) (σ:St) (H:Hp) (E:Value->Shared->Prop),Inv X pins σ H s->(∀ b∈fp,yL X pins H b)->tn i s.heap->J.go i H ->
  wpAny (model P w) X.A (lR (.ref it)) (fun r s1=>∃ u,r=some u /\
   wpAny (model P w) X.A (IK tg (.ref it) u) (fun _ s2=>∃ x H',Inv X pins σ H' s2/\RelV x u/\J.yld i H x H'/\tn (i+1) s2.heap/\∀ b∈fp,H' b=none) E s1) E s
 done:∀ (X:Cx),X.prog=P->X.w=w->X.K=K->X.calm=true->∀ (i:Nat) (pins:List (Addr × Obj)) (s:Shared) (σ:St) (H:Hp) (E:Value->Shared->Prop),Inv X pins σ H s->(∀ b∈fp,yL X pins H b)->tn i s.heap->J.stop i H ->
  wpAny (model P w) X.A (lR (.ref it)) (fun r s1=>r=none/\Inv X pins σ H s1) E s
 self:∀ (A:bH) (i:Nat) (s:Shared) (Q:Value->Shared->Prop) (E:Value->Shared->Prop),tn i s.heap->Q (.ref it) s->wpAny (model P w) A (wA (.ref it)) Q E s
noncomputable abbrev TI:=St->Hp->(It->Hp->Prop)->Prop
noncomputable def PIE (X:Cx) (pins:List (Addr × Obj)) (σ:St) (tg:Expr) (R:It->Hp->Prop) (itv:Value) (s2:Shared):Prop :=
 ∃ (it:Addr) (fp:List Addr) (tn:Nat->Heap->Prop) (J:It) (H':Hp),itv = .ref it/\Inv X pins σ H' s2/\Turn X.prog X.w X.K tg J fp it tn/\tn 0 s2.heap/\(∀ b∈fp,yL X pins H' b)/\R J H'
noncomputable def PI (X:Cx) (tg iter:Expr) (wi:TI):Prop :=
 ∀ (pins:List (Addr × Obj)) (s:Shared) (σ:St) (H:Hp) (R:It->Hp->Prop),Inv X pins σ H s->wi σ H R ->
  wpAny (model X.prog X.w) X.A (eval iter X.env) (fun v s1=>wpAny (model X.prog X.w) X.A (wA v) (PIE X pins σ tg R) X.xe s1) X.xe s
theorem aaz {M:Model} {s:Shared} {o:Obj} {n:String} {vs:Array Value} {Q:Unit->Shared->Prop} (ho:s.heap.get? it=some o) (hc:o.cls = .type n) (hd:o.data = .fields vs)
  (hn:["enumerate","zip","dict_itemiterator","dict_reverseitemiterator","odict_iterator","itertools.zip_longest","itertools.pairwise"].contains n=false) (hQ:Q () s):wpAny M A (IK tg (.ref it) u) Q E s:=by
 unfold IK
 cases tg <;> first
  | exact aR hQ
  | (cases u <;> first
    | exact aR hQ
    | (refine aJ (WQ ho ?_)
       rw [hc,hd]
       show wpAny M A (if (["enumerate","zip","dict_itemiterator","dict_reverseitemiterator","odict_iterator","itertools.zip_longest","itertools.pairwise"].contains n && vs[0]? == some (nA _))=true then _ else _) Q E s
       rw [if_neg (by intro h;rw [hn,aeL] at h;cases h)]
       exact aR hQ))
noncomputable def Itl (K:aW) (a:Addr):It :=
 ⟨fun i H=>∃ xs x,SqL K H a xs/\xs[i]? = some x,fun i H x H'=>H'=H/\∀ xs,SqL K H a xs->xs[i]? = some x,fun i H=>∃ xs,SqL K H a xs/\xs.length<=i⟩
noncomputable def Itt (K:aW) (a:Addr):It :=
 ⟨fun i H=>∃ xs x,SqT K H a xs/\xs[i]? = some x,fun i H x H'=>H'=H/\∀ xs,SqT K H a xs->xs[i]? = some x,fun i H=>∃ xs,SqT K H a xs/\xs.length<=i⟩
noncomputable def Itr (lo:Int) (n:Nat):It:=⟨fun i _=>i<n,fun i H x H'=>H'=H/\x = .int (lo+i),fun i _=>n<=i⟩
theorem acd {K:aW} (a it:Addr):Turn P w K tg (Itl K a) [it] it (fun i h=>h.IsListIter it a i) where
 mem:=by simp
 obj:=fun i h st b hb=>by
  have e:b=it:=by simpa using hb
  subst e
  obtain ⟨o,e,c,d⟩:=st
  exact ⟨o,e,fun v z=>by rw [d] at z;cases z⟩
 keep:=fun i h h' st k=>st.at fun o e=>k it (by simp) o e
 item:=by
  walk_at "c"
  subst hP hw hK
  obtain ⟨xs,x,hq,hx⟩:=hg
  obtain ⟨its,rv,p,hz⟩:=I.list hq
  obtain ⟨u,hu,ru⟩:=rv.get hx
  k_dat it "d"
  refine wpAny_pyNext_list_item st p.isList (x:=u) (by simpa using hu) fun h' st' sb=>?_
  have I1:Inv X pins σ H { s with heap:=h' }:=I.turned (t':=s.toks) (fun b o hb e=>(sb.2 b hb).trans e) f0 f1 f3 f4 f5
  obtain ⟨o,e,c,d⟩:=id st'
  exact ⟨u,rfl,aaz (s:={ s with heap:=h' }) e c d (by decide) ⟨x,H,I1,ru,⟨rfl,fun ys hy=>by rw [I.T6 hy hq];exact hx⟩,st',fun b hb=>(hf b hb).1⟩⟩
 done:=by
  walk_at "c"
  subst hP hw hK
  obtain ⟨xs,hq,hx⟩:=hg
  obtain ⟨its,rv,p,hz⟩:=I.list hq
  k_dat it "d"
  have hl:=rv.length
  exact wpAny_pyNext_list_end (I.ok.hd hc) st p.isList (by simp;lia) fun h' eb=>⟨rfl,I.turned (t':=s.toks) (fun b o hb e=>eb b o hb e) f0 f1 f3 f4 f5⟩
 self:=fun _ _ _ _ _ st h=>wpAny_pyIter_listiter st h
theorem YM {K:aW} (a it:Addr):Turn P w K tg (Itt K a) [it] it (fun i h=>h.IsTupleIter it a i) where
 mem:=by simp
 obj:=fun i h st b hb=>by
  have e:b=it:=by simpa using hb
  subst e
  obtain ⟨o,e,c,d⟩:=st
  exact ⟨o,e,fun v z=>by rw [d] at z;cases z⟩
 keep:=fun i h h' st k=>st.at fun o e=>k it (by simp) o e
 item:=by
  walk_at "c"
  subst hP hw hK
  obtain ⟨xs,x,hq,hx⟩:=hg
  obtain ⟨its,rv,p,hz⟩:=I.tuple hq
  obtain ⟨u,hu,ru⟩:=rv.get hx
  k_dat it "d"
  refine wpAny_pyNext_tuple_item st (show s.heap.IsTuple a its.toArray from p) (x:=u) (by simpa using hu) fun h' st' sb=>?_
  have I1:Inv X pins σ H { s with heap:=h' }:=I.turned (t':=s.toks) (fun b o hb e=>(sb.2 b hb).trans e) f0 f1 f3 f4 f5
  obtain ⟨o,e,c,d⟩:=id st'
  exact ⟨u,rfl,aaz (s:={ s with heap:=h' }) e c d (by decide) ⟨x,H,I1,ru,⟨rfl,fun ys hy=>by rw [I.ab8 hy hq];exact hx⟩,st',fun b hb=>(hf b hb).1⟩⟩
 done:=by
  walk_at "c"
  subst hP hw hK
  obtain ⟨xs,hq,hx⟩:=hg
  obtain ⟨its,rv,p,hz⟩:=I.tuple hq
  k_dat it "d"
  have hl:=rv.length
  exact wpAny_pyNext_tuple_end (I.ok.hd hc) st (show s.heap.IsTuple a its.toArray from p) (by simp;lia) fun h' eb=>⟨rfl,I.turned (t':=s.toks) (fun b o hb e=>eb b o hb e) f0 f1 f3 f4 f5⟩
 self:=fun _ _ _ _ _ st h=>wpAny_pyIter_tupleiter st h
theorem YQ {K:aW} (it:Addr) (lo:Int) (n:Nat):Turn P w K tg (Itr lo n) [it] it (fun i h=>IsRangeIter h it (lo+(i:Nat)*1) ((n:Int)-(i:Nat)) 1) where
 mem:=by simp
 obj:=fun i h st b hb=>by
  have e:b=it:=by simpa using hb
  subst e
  exact ⟨_,st,fun v z=>by
   have z':Data.fields _=Data.cell v:=z
   cases z'⟩
 keep:=fun i h h' st k=>k it (by simp) _ st
 item:=by
  walk_at "c"
  subst hP hw hK
  k_dat it "d"
  have W:=Walks.range (prog:=X.prog) (w:=X.w) (I.ok.hd hc) it lo 1 n
  refine W.item i s _ _ hg st fun v h' tk hv st' kk=>?_
  obtain ⟨t,rfl⟩:=hv
  have I1:Inv X pins σ H { s with heap:=h',toks:=tk }:=I.turned (fun b o hb e=>kk b o (by simpa using hb) e) f0 f1 f3 f4 f5
  refine ⟨_,rfl,aaz (s:={ s with heap:=h',toks:=tk }) (n := "range_iterator") st' rfl rfl (by decide) ⟨.int (lo+i),H,I1,⟨t,?_⟩,⟨rfl,rfl⟩,st',fun b hb=>(hf b hb).1⟩⟩
  rw [ae2]
 done:=by
  walk_at "c"
  subst hP hw hK
  k_dat it "d"
  exact wpAny_pyNext_range_end (I.ok.hd hc) st (by have:n<=i:=hg;lia) fun h' eb=>⟨rfl,I.turned (t':=s.toks) (fun b o hb e=>eb b o hb e) f0 f1 f3 f4 f5⟩
 self:=fun _ _ _ _ _ st h=>wpAny_pyIter_rangeiter st h
noncomputable def iList (K:aW) (tl:TE):TI:=fun σ H R=>tl σ H fun x H1=>∃ a,x = .ref a/\(∃ xs,SqL K H1 a xs)/\R (Itl K a) H1
noncomputable def iTup (K:aW) (tl:TE):TI:=fun σ H R=>tl σ H fun x H1=>∃ a,x = .ref a/\(∃ xs,SqT K H1 a xs)/\R (Itt K a) H1
theorem mH (hl:PE X l tl):PI X tg l (iList X.K tl):=by
 intro pins s σ H R I h
 refine thn (hl pins s σ H _ I h) fun v s1 ⟨x,H1,I1,r1,q1⟩=>?_
 obtain ⟨a,e,⟨xs,hq⟩,q⟩:=q1
 subst e
 cases r1
 obtain ⟨its,rv,p,hz⟩:=I1.list hq
 refine ad0 p.isList ?_
 refine ⟨s1.heap.objs.size,[s1.heap.objs.size],_,_,H1,rfl,I1.kept (t':=s1.toks) fun b o e=>dX _ e,acd a _,⟨_,eU _ rfl,rfl,rfl⟩,fun b hb=>?_,q⟩
 have e:b=s1.heap.objs.size:=by simpa using hb
 subst e
 exact I1.ab9 (bh _) (I1.hok.fresh (bh _))
theorem agF (hl:PE X l tl):PI X tg l (iTup X.K tl):=by
 intro pins s σ H R I h
 refine thn (hl pins s σ H _ I h) fun v s1 ⟨x,H1,I1,r1,q1⟩=>?_
 obtain ⟨a,e,⟨xs,hq⟩,q⟩:=q1
 subst e
 cases r1
 obtain ⟨its,rv,p,hz⟩:=I1.tuple hq
 refine wpAny_pyIter_tuple (show s1.heap.IsTuple a its.toArray from p) ?_
 refine ⟨s1.heap.objs.size,[s1.heap.objs.size],_,_,H1,rfl,I1.kept (t':=s1.toks) fun b o e=>dX _ e,YM a _,⟨_,eU _ rfl,rfl,rfl⟩,fun b hb=>?_,q⟩
 have e:b=s1.heap.objs.size:=by simpa using hb
 subst e
 exact I1.ab9 (bh _) (I1.hok.fresh (bh _))
theorem T7 {s:Shared} {R:It->Hp->Prop} {lo hi:Int} {t u v:Tok} {tk:Nat} (I:Inv X pins σ H s) (h1:-(2 ^ 62)<=lo) (h2:lo<2 ^ 62) (h3:-(2 ^ 62)<=hi) (h4:hi<2 ^ 62)
  (q:R (Itr lo (hi-lo).toNat) H):wpAny (model X.prog X.w) X.A (wA (.ref s.heap.objs.size)) (PIE X pins σ tg R) E { s with heap:=s.heap.push { cls:=.type "range",data:=.fields #[.int lo t,.int hi u,.int 1 v] },toks:=tk }:=by
 refine wpAny_pyIter_range (IsRange.new ..) (small_one h1 h2 h3 h4) ?_
 have I1:Inv X pins σ H { s with heap:=s.heap.push { cls:=.type "range",data:=.fields #[.int lo t,.int hi u,.int 1 v] },toks:=tk }:=I.kept fun b o e=>dX _ e
 refine ⟨(s.heap.push { cls:=.type "range",data:=.fields #[.int lo t,.int hi u,.int 1 v] }).objs.size,[(s.heap.push { cls:=.type "range",data:=.fields #[.int lo t,.int hi u,.int 1 v] }).objs.size],_,_,H,rfl,
  I1.kept (t':=tk) fun b o e=>dX _ e,YQ _ lo (hi-lo).toNat,?_,fun b hb=>?_,q⟩
 ·have e1:lo+((0:Nat):Int)*1=lo:=by simp
  have e2:(((hi-lo).toNat:Nat):Int)-((0:Nat):Int)=amA lo hi 1:=by rw [rangeSize_one];split <;> lia
  show IsRangeIter _ _ (lo+((0:Nat):Int)*1) ((((hi-lo).toNat:Nat):Int)-((0:Nat):Int)) 1
  rw [e1,e2]
  exact eU _ rfl
 ·have e:b=(s.heap.push { cls:=.type "range",data:=.fields #[.int lo t,.int hi u,.int 1 v] }).objs.size:=by simpa using hb
  subst e
  exact I1.ab9 (bh _) (I1.hok.fresh (bh _))
noncomputable def iRng1 (ta:TA):TI:=fun σ H R=>ta σ H fun vs H1=>∃ j:Int,vs=[.int j] /\ -(2 ^ 62)<=j/\j<2 ^ 62/\R (Itr 0 j.toNat) H1
noncomputable def iRng2 (ta:TA):TI:=fun σ H R=>ta σ H fun vs H1=>∃ i j:Int,vs=[.int i,.int j]/\(-(2 ^ 62)<=i/\i<2 ^ 62 /\ -(2 ^ 62)<=j/\j<2 ^ 62)/\R (Itr i (j-i).toNat) H1
theorem MJ {a:Expr} {ta:TA} {pos:Pos} (hg:Gl X "range") (hm:X.mg "range" = none) (ha:PA X [a] ta) (hs:cO [a] X.env=[(false,eval a X.env)]:=by rfl):PI X tg (.Call (.Name "range" p) [a] [] pos) (iRng1 ta):=by
 intro pins s σ H R I h
 refine Call_ (nG I hg hm boot_range (Gm (thn (ha pos pins s σ H _ I h) fun us s1 ⟨vs,H1,I1,r1,q1⟩=>?_) hs rfl))
 obtain ⟨j,e,q1,q2,q⟩:=q1
 subst e
 cases r1 with
 | cons r rr =>
  cases rr
  obtain ⟨t,rfl⟩:=r
  exact call_range_1 (T7 I1 tb_g% tb_g% q1 q2 (by simpa using q))
theorem ace {a b:Expr} {ta:TA} {pos:Pos} (hg:Gl X "range") (hm:X.mg "range" = none) (ha:PA X [a,b] ta) (hs:cO [a,b] X.env=[(false,eval a X.env),(false,eval b X.env)]:=by rfl) (hs2:cO [b] X.env=[(false,eval b X.env)]:=by rfl) :
  PI X tg (.Call (.Name "range" p) [a,b] [] pos) (iRng2 ta):=by
 intro pins s σ H R I h
 refine Call_ (nG I hg hm boot_range (Gm (thn (ha pos pins s σ H _ I h) fun us s1 ⟨vs,H1,I1,r1,q1⟩=>?_) (by rw [hs,hs2]) (by rw [hs2];rfl)))
 obtain ⟨i,j,e,⟨q1,q2,q3,q4⟩,q⟩:=q1
 subst e
 cases r1 with
 | cons r rr =>
  cases rr with
  | cons r' rr =>
   cases rr
   obtain ⟨t,rfl⟩:=r
   obtain ⟨t',rfl⟩:=r'
   exact call_range_2 (T7 I1 q1 q2 q3 q4 q)
noncomputable def tFor (wi:TI) (g:TG) (tb:TS):TS:=fun D σ H=>wi σ H fun J H1=>∃ W:Nat->Nat->St->Hp->Prop,(∃ m,W 0 m σ H1)/\∀ i m σ H,W i m σ H ->
 (J.stop i H/\D.nx σ H)\/(J.go i H/\∃ N:St->Hp->Prop,(∀ σ' H',N σ' H'->∃ m',m'<m/\W (i+1) m' σ' H')/\∀ x H',J.yld i H x H'->g x σ H' fun σ2 H2=>tb { D with nx:=N,ct:=N,bk:=D.nx } σ2 H2)
noncomputable def Fe (fp:List Addr) (h:Heap):List (Addr × Obj):=fp.filterMap fun b=>(h.get? b).map fun o=>(b,o)
theorem lX {o:Obj} (hb:b∈fp) (e:h.get? b=some o):(b,o)∈Fe fp h:=V8.mpr ⟨b,hb,by rw [e];rfl⟩
theorem acf {p:Addr × Obj} (hp:p∈Fe fp h):p.1∈fp/\h.get? p.1=some p.2:=by
 obtain ⟨b,hb,e⟩:=V8.mp hp
 cases q:h.get? b with
 | none=>rw [q] at e;cases e
 | some o =>
  rw [q] at e
  have e':(b,o)=p:=bW e
  subst e'
  exact ⟨hb,q⟩
theorem Inv.pinned {s:Shared} (I:Inv X pins σ H s) (hf:∀ b∈fp,yL X pins H b) (ho:∀ b∈fp,∃ o,s.heap.get? b=some o/\∀ v,o.data ≠ .cell v):Inv X (pins++Fe fp s.heap) σ H s :=
 I.aax fun p hp=>(cR.mp hp).elim (fun z=>I.pin p (qt _ z)) fun z=>by
  obtain ⟨hb,e⟩:=acf z
  obtain ⟨f0,f1,f2,_⟩:=hf p.1 hb
  obtain ⟨o,e',d⟩:=ho p.1 hb
  rw [e] at e';cases e'
  exact ⟨e,f0,f1,f2,d⟩
theorem Inv.pB {pl:List (Addr × Obj)} {s:Shared} (I:Inv X (pins++pl) σ H s):Inv X pins σ H s:=I.aax fun p hp=>I.pin p (qt _ (Ot _ hp))
theorem rR {iter:Expr} {wi:TI} {g:TG} {pos:Pos} (hp:WY (model X.prog X.w) X.A X.env X.xe) (hc:X.calm=true) (hi:PI X tg iter wi) (hg:PG X tg g) (hb:PSs X body tb)
  (hs:∀ x,Iw iter X.env x=pure x:=by intro _;rfl):PS X (.For tg iter body [] pos) (tFor wi g tb):=by
 intro pins s σ H D I h
 refine wpAny_For (thn (hi pins s σ H _ I h) fun v s1 h1=>thn h1 fun itv s2 h2=>?_) hs
 obtain ⟨it,fp,tn,J,H2,e,I2,T,st2,f2,W,⟨m0,w0⟩,turn⟩:=h2
 subst e
 have stat:∀ {H':Hp},(∀ b∈fp,H' b=none)->∀ b∈fp,yL X pins H' b:=fun hn b hb=>⟨hn b hb,(f2 b hb).2⟩
 refine codeAny_forLoop_any (fun n s'=>∃ i σ' H',Inv X pins σ' H' s'/\tn i s'.heap/\(∀ b∈fp,H' b=none)/\W i n σ' H') ?_ m0 ⟨0,σ,H2,I2,st2,fun b hb=>(f2 b hb).1,w0⟩
 rintro n s3 ⟨i,σ3,H3,I3,st3,fr3,w3⟩
 rcases turn i n σ3 H3 w3 with ⟨stop,qn⟩ | ⟨go,N,hN,step⟩
 ·refine zB hp (thn (T.done X rfl rfl rfl hc i pins s3 σ3 H3 X.xe I3 (stat fr3) st3 stop) fun r s4 ⟨hr,I4⟩=>?_)
  subst hr
  exact DQ ⟨σ3,H3,I4,qn⟩
 ·refine zB hp (thn (T.item X rfl rfl rfl hc i pins s3 σ3 H3 X.xe I3 (stat fr3) st3 go) fun r s4 ⟨u,hr,h4⟩=>?_)
  subst hr
  refine zB hp (thn h4 fun _ s5 ⟨x,H5,I5,r5,y5,st5,fr5⟩=>?_)
  have I5':=I5.pinned (stat fr5) (T.obj _ _ st5)
  refine zB hp (thn (hg _ s5 σ3 H5 x u _ I5' r5 (step x H5 y5)) fun _ s6 ⟨σ6,H6,I6,q6⟩=>?_)
  refine zB hp (thn (hb _ s6 σ6 H6 _ I6 q6) fun f s7 q7=>?_)
  have again:∀ {σ7:St} {H7:Hp},Inv X (pins++Fe fp s5.heap) σ7 H7 s7->N σ7 H7->∃ m,m<n/\∃ i σ' H',Inv X pins σ' H' s7/\tn i s7.heap/\(∀ b∈fp,H' b=none)/\W i m σ' H':=fun {σ7 H7} I7 n7=>by
   obtain ⟨m',hm,w7⟩:=hN σ7 H7 n7
   refine ⟨m',hm,i+1,σ7,H7,I7.pB,T.keep _ _ _ st5 fun b hb o e=>(I7.pin (b,o) (qt _ (qt _ (lX hb e)))).1,fun b hb=>?_,w7⟩
   obtain ⟨o,e,d⟩:=T.obj _ _ st5 b hb
   exact (I7.pin (b,o) (qt _ (qt _ (lX hb e)))).2.1
  cases f with
  | next=>obtain ⟨σ7,H7,I7,n7⟩:=q7;exact again I7 n7
  | cont=>obtain ⟨σ7,H7,I7,n7⟩:=q7;exact again I7 n7
  | brk=>obtain ⟨σ7,H7,I7,q7⟩:=q7;exact ⟨σ7,H7,I7.pB,q7⟩
  | ret v=>obtain ⟨x7,σ7,H7,I7,r7,q7⟩:=q7;exact ⟨x7,σ7,H7,I7.pB,r7,q7⟩
theorem wV {K:aW} {g:TG} (Pv:Nat->St->Hp->Prop) (h0:Pv 0 σ H) (hl:∀ i σ H,i<=xs.length->Pv i σ H->SqL K H a xs)
  (hs:∀ i x σ H,xs[i]? = some x->Pv i σ H->g x σ H fun σ2 H2=>tb { D with nx:=Pv (i+1),ct:=Pv (i+1),bk:=D.nx } σ2 H2) (hd:∀ σ H,Pv xs.length σ H->D.nx σ H) :
  ∃ W:Nat->Nat->St->Hp->Prop,(∃ m,W 0 m σ H)/\∀ i m σ H,W i m σ H ->
   ((Itl K a).stop i H/\D.nx σ H)\/((Itl K a).go i H/\∃ N:St->Hp->Prop,(∀ σ' H',N σ' H'->∃ m',m'<m/\W (i+1) m' σ' H')/\∀ x H',(Itl K a).yld i H x H'->g x σ H' fun σ2 H2=>tb { D with nx:=N,ct:=N,bk:=D.nx } σ2 H2):=by
 refine ⟨fun i m σ H=>m=xs.length-i/\i<=xs.length/\Pv i σ H,⟨xs.length,by simp,dF _,h0⟩,?_⟩
 rintro i m σ H ⟨rfl,hi,p⟩
 have q:=hl i σ H hi p
 by_cases hlt:i<xs.length
 ·refine .inr ⟨⟨xs,xs[i],q,by simp [hlt]⟩,Pv (i+1),fun σ' H' p'=>⟨xs.length-(i+1),by lia,rfl,hlt,p'⟩,fun x H' y=>?_⟩
  obtain ⟨e,y⟩:=y
  subst e
  exact hs i x σ _ (y xs q) p
 ·have e:i=xs.length:=by lia
  subst e
  exact .inl ⟨⟨xs,q,bh _⟩,hd σ H p⟩
theorem Fi {lo:Int} {g:TG} (Pv:Nat->St->Hp->Prop) (h0:Pv 0 σ H)
  (hs:∀ i σ H,i<n->Pv i σ H->g (.int (lo+i)) σ H fun σ2 H2=>tb { D with nx:=Pv (i+1),ct:=Pv (i+1),bk:=D.nx } σ2 H2) (hd:∀ σ H,Pv n σ H->D.nx σ H) :
  ∃ W:Nat->Nat->St->Hp->Prop,(∃ m,W 0 m σ H)/\∀ i m σ H,W i m σ H ->
   ((Itr lo n).stop i H/\D.nx σ H)\/((Itr lo n).go i H/\∃ N:St->Hp->Prop,(∀ σ' H',N σ' H'->∃ m',m'<m/\W (i+1) m' σ' H')/\∀ x H',(Itr lo n).yld i H x H'->g x σ H' fun σ2 H2=>tb { D with nx:=N,ct:=N,bk:=D.nx } σ2 H2):=by
 refine ⟨fun i m σ H=>m=n-i/\i<=n/\Pv i σ H,⟨n,by simp,dF _,h0⟩,?_⟩
 rintro i m σ H ⟨rfl,hi,p⟩
 by_cases hlt:i<n
 ·refine .inr ⟨hlt,Pv (i+1),fun σ' H' p'=>⟨n-(i+1),by lia,rfl,hlt,p'⟩,fun x H' y=>?_⟩
  obtain ⟨e,y⟩:=y
  subst e y
  exact hs i σ _ hlt p
 ·have e:i=n:=by lia
  subst e
  exact .inl ⟨bh _,hd σ H p⟩
theorem jE {c:TT} (Pv:St->Hp->Prop) (μ:St->Hp->Nat) (h0:Pv σ H)
  (hs:∀ σ H,Pv σ H->c σ H fun b H1=>if b=true then tb { D with nx:=fun σ' H'=>Pv σ' H'/\μ σ' H'<μ σ H,ct:=fun σ' H'=>Pv σ' H'/\μ σ' H'<μ σ H,bk:=D.nx } σ H1 else D.nx σ H1)
  (mono:∀ σ H Q Q',(∀ b H1,Q b H1->Q' b H1)->c σ H Q->c σ H Q'):z8 c tb D σ H:=by
 refine ⟨fun m σ H=>m=μ σ H/\Pv σ H,⟨_,rfl,h0⟩,?_⟩
 rintro m σ H ⟨rfl,p⟩
 refine mono σ H _ _ (fun b H1 q=>?_) (hs σ H p)
 cases b with
 | true=>exact ⟨_,fun σ' H' ⟨p',l⟩=>⟨_,l,rfl,p'⟩,q⟩
 | false=>exact q
noncomputable abbrev R2:=V->V->Hp->VK->Prop
variable {r:R2}
noncomputable def OpR (X:Cx) (f:Value->Value->Sem Value) (r:R2):Prop :=
 ∀ (pins:List (Addr × Obj)) (s:Shared) (σ:St) (H:Hp) (x y:V) (v u:Value) (Q:VK),Inv X pins σ H s->RelV x v->RelV y u->r x y H Q ->
  wpAny (model X.prog X.w) X.A (f v u) (EP X pins σ Q) X.xe s
noncomputable def UnR (X:Cx) (f:Value->Sem Value) (r:V->Hp->VK->Prop):Prop :=
 ∀ (pins:List (Addr × Obj)) (s:Shared) (σ:St) (H:Hp) (x:V) (v:Value) (Q:VK),Inv X pins σ H s->RelV x v->r x H Q ->
  wpAny (model X.prog X.w) X.A (f v) (EP X pins σ Q) X.xe s
noncomputable def gP (X:Cx) (f:Value) (r:List V->Hp->VK->Prop):Prop :=
 ∀ (pins:List (Addr × Obj)) (s:Shared) (σ:St) (H:Hp) (xs:List V) (us:List Value) (Q:VK),Inv X pins σ H s->Vals xs us->r xs H Q ->
  wpAny (model X.prog X.w) X.A (call f us) (EP X pins σ Q) X.xe s
@[reducible] noncomputable def tOp (r:R2) (ta tb:TE):TE:=fun σ H Q=>ta σ H fun x H1=>tb σ H1 fun y H2=>r x y H2 Q
noncomputable def tUn (r:V->Hp->VK->Prop) (ta:TE):TE:=fun σ H Q=>ta σ H fun x H1=>r x H1 Q
noncomputable def rI (C:Int->Int->Prop) (g:Int->Int->V):R2:=fun x y H Q=>∃ i j,x = .int i/\y = .int j/\C i j/\Q (g i j) H
noncomputable def rI0 (g:Int->Int->V):R2:=fun x y H Q=>∃ i j,x = .int i/\y = .int j/\Q (g i j) H
noncomputable def rU (g:Int->V):V->Hp->VK->Prop:=fun x H Q=>∃ i,x = .int i/\Q (g i) H
section
variable {a b:Expr} {tb tc:TE} {pos:Pos}
theorem binT (ha:PE X a ta) (hb:PE X b tb) {s:Shared} {R:V->V->Hp->Prop} (I:Inv X pins σ H s)
  (h:ta σ H fun x H1=>tb σ H1 fun y H2=>R x y H2) {Q:Value->Shared->Prop} {f:Value->Value->Sem Value}
  (hf:∀ v u s2 x y H2,Inv X pins σ H2 s2->RelV x v->RelV y u->R x y H2->wpAny (model X.prog X.w) X.A (f v u) Q X.xe s2) :
  wpAny (model X.prog X.w) X.A (eval a X.env) (fun v s₁=>wpAny (model X.prog X.w) X.A (eval b X.env) (fun u s₂=>wpAny (model X.prog X.w) X.A (f v u) Q X.xe s₂) X.xe s₁) X.xe s:=by
 refine thn (ha pins s σ H _ I h) fun v s1 ⟨x,H1,I1,r1,q1⟩=>?_
 refine thn (hb pins s1 σ H1 _ I1 q1) fun u s2 ⟨y,H2,I2,r2,q2⟩=>?_
 exact hf v u s2 x y H2 I2 r1 r2 q2
theorem aK {op:Operator} (ho:OpR X (oX op) r) (ha:PE X a ta) (hb:PE X b tb):PE X (.BinOp a op b pos) (tOp r ta tb):=by
 walk_at "e"
 exact wpAny_BinOp (binT ha hb I h fun v u s2 x y H2 I2 rx ry q=>ho pins s2 σ H2 x y v u Q I2 rx ry q)
theorem aaA {op:UnaryOp} {r:V->Hp->VK->Prop} (ho:UnR X (unaryOp op) r) (ha:PE X a ta):PE X (.UnaryOp op a pos) (tUn r ta):=by
 walk_at "e"
 exact UnaryOp_ (thn (ha pins s σ H _ I h) fun v s1 ⟨x,H1,I1,r1,q1⟩=>ho pins s1 σ H1 x v Q I1 r1 q1)
theorem opI {C:Int->Int->Prop} 
  (rule:∀ (i j:Int) (t u:Tok) (s:Shared) (Q:Value->Shared->Prop) (E:Value->Shared->Prop),C i j->Q (.int (g i j) s.toks) { s with toks:=s.toks+1 }->wpAny (model X.prog X.w) X.A (f (.int i t) (.int j u)) Q E s) :
  OpR X f (rI C fun i j=>.int (g i j)):=by
 walk_at "g"
 obtain ⟨i,j,rfl,rfl,hc,q⟩:=h
 obtain ⟨t,rfl⟩:=rx
 obtain ⟨t',rfl⟩:=ry
 exact rule i j t t' s _ _ hc ⟨.int (g i j),H,I.tok _,⟨_,rfl⟩,q⟩
theorem opI0 
  (rule:∀ (i j:Int) (t u:Tok) (s:Shared) (Q:Value->Shared->Prop) (E:Value->Shared->Prop),Q (.int (g i j) s.toks) { s with toks:=s.toks+1 }->wpAny (model X.prog X.w) X.A (f (.int i t) (.int j u)) Q E s) :
  OpR X f (rI0 fun i j=>.int (g i j)):=by
 walk_at "g"
 obtain ⟨i,j,rfl,rfl,q⟩:=h
 obtain ⟨t,rfl⟩:=rx
 obtain ⟨t',rfl⟩:=ry
 exact rule i j t t' s _ _ ⟨.int (g i j),H,I.tok _,⟨_,rfl⟩,q⟩
theorem opB0 {g:Int->Int->Bool}
  (rule:∀ (i j:Int) (t u:Tok) (s:Shared) (Q:Value->Shared->Prop) (E:Value->Shared->Prop),Q (.bool (g i j)) s->wpAny (model X.prog X.w) X.A (f (.int i t) (.int j u)) Q E s) :
  OpR X f (rI0 fun i j=>.bl (g i j)):=by
 walk_at "g"
 obtain ⟨i,j,rfl,rfl,q⟩:=h
 obtain ⟨t,rfl⟩:=rx
 obtain ⟨t',rfl⟩:=ry
 exact rule i j t t' s _ _ ⟨.bl (g i j),H,I,rfl,q⟩
noncomputable def CDiv (i j:Int):Prop:=0<j/\j<1073741824
noncomputable def CPow (i j:Int):Prop:=0<=j/\j<=1000000/\i.natAbs<2 ^ 64
noncomputable def agG (i j:Int):Prop:=(-(2 ^ 64)<i/\i<2 ^ 64)\/(-(2 ^ 64)<j/\j<2 ^ 64)
theorem agG.ok {i j:Int} (h:agG i j):IntMulOk i j:=by
 rcases h with ⟨h1,h2⟩ | ⟨h1,h2⟩
 ·exact .of_left (aec h1 h2)
 ·exact .of_right (aec h1 h2)
theorem YS (k:Nat):(0:Int)<=2 ^ k:=by
 rw [two_pow_cast]
 exact aeT _
theorem bA:OpR X (oX .Add) (rI0 fun i j=>.int (i+j)):=opI0 fun _ _ _ _ _ _ _ q=>add_int q
theorem uF:OpR X (oX .Sub) (rI0 fun i j=>.int (i-j)):=opI0 fun _ _ _ _ _ _ _ q=>sub_int q
theorem lA:OpR X (oX .Mult) (rI agG fun i j=>.int (i*j)):=opI fun _ _ _ _ _ _ _ hc q=>mul_int q hc.ok
theorem Q5:OpR X (oX .FloorDiv) (rI CDiv fun i j=>.int (i / j)):=opI fun i j _ _ _ _ _ hc q=>by
 have h1:(0:Int)<j:=hc.1
 have h2:j<1073741824:=hc.2
 exact afo tb_g% (by rw [XC i tb_g%];exact q) (.inl (PyProof.noPylong_small tb_g%))
theorem iU:OpR X (oX .Mod) (rI (fun _ j=>0<j) fun i j=>.int (i % j)):=opI fun i j _ _ _ _ _ hc q=>by
 have h1:(0:Int)<j:=hc
 exact mod_int' tb_g% (by rw [Int.fmod_eq_emod_of_nonneg i tb_g%];exact q)
theorem Q6:OpR X (oX .LShift) (rI CPow fun i j=>.int (i*2 ^ j.toNat)):=opI fun _ _ _ _ _ _ _ hc q=>lshift_int_small hc.1 hc.2.1 hc.2.2 q
theorem amU:OpR X (oX .RShift) (rI (fun _ j=>0<=j) fun i j=>.int (i / 2 ^ j.toNat)):=opI fun i j _ _ _ _ _ hc q =>
 rshift_int hc (by rw [XC i (YS _)];exact q)
theorem unI {f:Value->Sem Value} {g:Int->Int}
  (rule:∀ (i:Int) (t:Tok) (s:Shared) (Q:Value->Shared->Prop) (E:Value->Shared->Prop),Q (.int (g i) s.toks) { s with toks:=s.toks+1 }->wpAny (model X.prog X.w) X.A (f (.int i t)) Q E s) :
  UnR X f (rU fun i=>.int (g i)):=by
 intro pins s σ H x v Q I rx h
 obtain ⟨i,rfl,q⟩:=h
 obtain ⟨t,rfl⟩:=rx
 exact rule i t s _ _ ⟨.int (g i),H,I.tok _,⟨_,rfl⟩,q⟩
theorem Q7:UnR X (unaryOp .USub) (rU fun i=>.int (-i)):=unI fun _ _ _ _ _ q=>neg_int q
end
noncomputable def scal:V->V->Bool
 | .non,.non=>true | .non,.int _=>true | .int _,.non=>true | .non,.bl _=>true | .bl _,.non=>true | .non,.str _=>true | .str _,.non=>true
 | .int _,.int _=>true | .bl _,.bl _=>true | .str _,.str _=>true | .byt _,.byt _=>true
 | .int _,.str _=>true | .str _,.int _=>true | .bl _,.str _=>true | .str _,.bl _=>true
 | _,_=>false
noncomputable def rEq:R2:=fun x y H Q=>scal x y=true/\Q (.bl (decide (x=y))) H
noncomputable def rNe:R2:=fun x y H Q=>scal x y=true/\Q (.bl (!decide (x=y))) H
theorem aaB {i j:Int}:decide (V.int i=V.int j)=(i == j):=by
 rw [Qi]
 simp
theorem agH {i j:Bool}:decide (V.bl i=V.bl j)=(i == j):=by
 rw [Qi]
 simp
theorem aaC {i j:Str}:decide (V.str i=V.str j)=(i == j):=by
 rw [Qi]
 simp
theorem aaD {i j:Array UInt8}:decide (V.byt i=V.byt j)=(i.toList == j.toList):=by
 rw [Qi]
 cases i
 cases j
 simp
section
variable {a b:Expr} {tb tc:TE} {pos:Pos}
theorem dB {s:Shared} {Q:VK} {k k':Bool} (I:Inv X pins σ H s) (q:Q (.bl k) H) (e:k=k'):EP X pins σ Q (.bool k') s:=by
 subst e
 exact ⟨.bl k,H,I,rfl,q⟩
theorem lN:OpR X (kO .Eq) rEq:=by
 walk_at "g"
 obtain ⟨hs,q⟩:=h
 cases x with
 | non =>
  cases rx
  cases y with
  | non=>cases ry;exact amc (dB I q (by simp))
  | bl j=>cases ry;exact amd (dB I q (by simp))
  | int j=>obtain ⟨t',rfl⟩:=ry;exact ami (dB I q (by simp))
  | str j=>obtain ⟨t',rfl⟩:=ry;exact amj (dB I q (by simp))
  | _=>exact absurd (show false=true from hs) gO
 | bl i =>
  cases rx
  cases y with
  | non=>cases ry;exact ame (dB I q (by simp))
  | bl j=>cases ry;exact eq_bool (dB I q agH)
  | str j=>obtain ⟨t',rfl⟩:=ry;exact amr (dB I q (by simp))
  | _=>exact absurd (show false=true from hs) gO
 | int i =>
  obtain ⟨t,rfl⟩:=rx
  cases y with
  | non=>cases ry;exact amk (dB I q (by simp))
  | int j=>obtain ⟨t',rfl⟩:=ry;exact eq_int (dB I q aaB)
  | str j=>obtain ⟨t',rfl⟩:=ry;exact amv (dB I q (by simp))
  | _=>exact absurd (show false=true from hs) gO
 | str i =>
  obtain ⟨t,rfl⟩:=rx
  cases y with
  | non=>cases ry;exact aml (dB I q (by simp))
  | bl j=>cases ry;exact ams (dB I q (by simp))
  | int j=>obtain ⟨t',rfl⟩:=ry;exact amw (dB I q (by simp))
  | str j=>obtain ⟨t',rfl⟩:=ry;exact eq_str (dB I q aaC)
  | _=>exact absurd (show false=true from hs) gO
 | byt i =>
  obtain ⟨t,rfl⟩:=rx
  cases y with
  | byt j=>obtain ⟨t',rfl⟩:=ry;exact PySem.W.eq_bytes (dB I q aaD)
  | _=>exact absurd (show false=true from hs) gO
 | _=>cases y <;> exact absurd (show false=true from hs) gO
theorem pC:OpR X (kO .NotEq) rNe:=by
 walk_at "g"
 obtain ⟨hs,q⟩:=h
 cases x with
 | non =>
  cases rx
  cases y with
  | non=>cases ry;exact amf (dB I q (by simp))
  | bl j=>cases ry;exact amg (dB I q (by simp))
  | int j=>obtain ⟨t',rfl⟩:=ry;exact amm (dB I q (by simp))
  | str j=>obtain ⟨t',rfl⟩:=ry;exact amn (dB I q (by simp))
  | _=>exact absurd (show false=true from hs) gO
 | bl i =>
  cases rx
  cases y with
  | non=>cases ry;exact amh (dB I q (by simp))
  | bl j=>cases ry;exact ne_bool (dB I q (congrArg not agH))
  | str j=>obtain ⟨t',rfl⟩:=ry;exact amt (dB I q (by simp))
  | _=>exact absurd (show false=true from hs) gO
 | int i =>
  obtain ⟨t,rfl⟩:=rx
  cases y with
  | non=>cases ry;exact amo (dB I q (by simp))
  | int j=>obtain ⟨t',rfl⟩:=ry;exact ne_int (dB I q (congrArg not aaB))
  | str j=>obtain ⟨t',rfl⟩:=ry;exact amx (dB I q (by simp))
  | _=>exact absurd (show false=true from hs) gO
 | str i =>
  obtain ⟨t,rfl⟩:=rx
  cases y with
  | non=>cases ry;exact amq (dB I q (by simp))
  | bl j=>cases ry;exact amu (dB I q (by simp))
  | int j=>obtain ⟨t',rfl⟩:=ry;exact amy (dB I q (by simp))
  | str j=>obtain ⟨t',rfl⟩:=ry;exact ne_str (dB I q (congrArg not aaC))
  | _=>exact absurd (show false=true from hs) gO
 | byt i =>
  obtain ⟨t,rfl⟩:=rx
  cases y with
  | byt j=>obtain ⟨t',rfl⟩:=ry;exact PySem.W.ne_bytes (dB I q (congrArg not aaD))
  | _=>exact absurd (show false=true from hs) gO
 | _=>cases y <;> exact absurd (show false=true from hs) gO
theorem vC:OpR X (kO .Lt) (rI0 fun i j=>.bl (decide (i<j))):=opB0 fun _ _ _ _ _ _ _ q=>lt_int q
theorem aaE:OpR X (kO .LtE) (rI0 fun i j=>.bl (decide (i<=j))):=opB0 fun _ _ _ _ _ _ _ q=>le_int q
theorem Gn:OpR X (kO .Gt) (rI0 fun i j=>.bl (decide (j<i))):=opB0 fun _ _ _ _ _ _ _ q=>gt_int q
theorem aaF:OpR X (kO .GtE) (rI0 fun i j=>.bl (decide (j<=i))):=opB0 fun _ _ _ _ _ _ _ q=>ge_int q
theorem agI:OpR X (kO .Is) (fun x y H Q=>y = .non/\Q (.bl (decide (x = .non))) H):=by
 walk_at "g"
 obtain ⟨rfl,q⟩:=h
 cases ry
 refine is_none_gen (dB I q ?_)
 cases x <;> first
  | (cases rx;rfl)
  | (obtain ⟨t,rfl⟩:=rx;rfl)
theorem Hy:OpR X (kO .IsNot) (fun x y H Q=>y = .non/\Q (.bl (!decide (x = .non))) H):=by
 walk_at "g"
 obtain ⟨rfl,q⟩:=h
 cases ry
 refine isnot_none_gen (dB I q ?_)
 cases x <;> first
  | (cases rx;rfl)
  | (obtain ⟨t,rfl⟩:=rx;rfl)
theorem aY (b:Expr) (h:op ≠ .In:=by decide) (h2:op ≠ .NotIn:=by decide):Ph op b=false:=by
 have e1:(op == CmpOp.In)=false:=by cases op <;> first | rfl | exact absurd rfl h
 have e2:(op == CmpOp.NotIn)=false:=by cases op <;> first | rfl | exact absurd rfl h2
 cases b <;> simp [Ph,e1,e2]
theorem yp (ho:OpR X (kO op) r) (ha:PE X a ta) (hb:PE X b tb) (hm:Ph op b=false):PE X (.Compare a [op] [b] pos) (tOp r ta tb):=by
 walk_at "e"
 exact wpAny_Compare1 (binT ha hb I h fun v u s2 x y H2 I2 rx ry q=>ho pins s2 σ H2 x y v u Q I2 rx ry q) hm
@[reducible] noncomputable def agJ (t:TE):TT:=fun σ H Q=>t σ H fun x H'=>∃ k,x = .bl k/\Q k H'
theorem aQ (ho:OpR X (kO op) r) (ha:PE X a ta) (hb:PE X b tb) (hm:Ph op b=false):PT X (.Compare a [op] [b] pos) (agJ (tOp r ta tb)):=by
 walk_at "e"
 refine wpAny_isTrue_Compare1 (thn (ha pins s σ H _ I h) fun v s1 ⟨x,H1,I1,r1,q1⟩=>thn (hb pins s1 σ H1 _ I1 q1) fun u s2 ⟨y,H2,I2,r2,q2⟩ =>
  thn (ho pins s2 σ H2 x y v u _ I2 r1 r2 q2) fun c s3 ⟨z,H3,I3,r3,k,e,q3⟩=>?_) hm
 subst e
 cases r3
 exact Dz ⟨H3,I3,q3⟩
theorem Q8:(sizeLine:Nat)<2 ^ 63:=by rw [Pj];decide
theorem jc:OpR X (oX .Add) (fun x y H Q=>∃ i j,x = .str i/\y = .str j/\i.length+j.length<=sizeLine/\Q (.str (i++j)) H):=by
 walk_at "g"
 obtain ⟨i,j,rfl,rfl,hz,q⟩:=h
 obtain ⟨t,rfl⟩:=rx
 obtain ⟨t',rfl⟩:=ry
 exact add_str (fun t' tk=>⟨.str (i++j),H,I.tok _,⟨_,rfl⟩,q⟩) hz
theorem vals1 {x:V} (r:Vals [x] us):∃ u,us=[u]/\RelV x u:=by
 cases r with
 | cons r1 r2=>cases r2;exact ⟨_,rfl,r1⟩
theorem vals2 {x:V} (r:Vals [x,y] us):∃ u w',us=[u,w']/\RelV x u/\RelV y w':=by
 cases r with
 | cons r1 r2 =>
  cases r2 with
  | cons r3 r4=>cases r4;exact ⟨_,_,rfl,r1,r3⟩
theorem Fj (hc:X.calm=true):gP X (.builtin "max") (fun xs H Q=>∃ i j,xs=[.int i,.int j]/\Q (.int (if j>i then j else i)) H):=by
 walk_at "f"
 obtain ⟨i,j,rfl,q⟩:=h
 obtain ⟨u,w',rfl,⟨t,rfl⟩,⟨t',rfl⟩⟩:=vals2 r
 refine max_two_ints (I.ok.hd hc) fun h' tk k=>⟨_,H,I.kept k,?_,q⟩
 by_cases hj:j>i
 ·rw [if_pos hj,if_pos hj];exact ⟨_,rfl⟩
 ·rw [if_neg hj,if_neg hj];exact ⟨_,rfl⟩
theorem acg (hc:X.calm=true):gP X (.builtin "min") (fun xs H Q=>∃ i j,xs=[.int i,.int j]/\Q (.int (if j<i then j else i)) H):=by
 walk_at "f"
 obtain ⟨i,j,rfl,q⟩:=h
 obtain ⟨u,w',rfl,⟨t,rfl⟩,⟨t',rfl⟩⟩:=vals2 r
 refine min_two_ints (I.ok.hd hc) fun h' tk k=>⟨_,H,I.kept k,?_,q⟩
 by_cases hj:j<i
 ·rw [if_pos hj,if_pos hj];exact ⟨_,rfl⟩
 ·rw [if_neg hj,if_neg hj];exact ⟨_,rfl⟩
theorem ach:gP X (.type "int") (fun xs H Q=>(∃ i,xs=[.int i]/\Q (.int i) H)\/∃ k,xs=[.bl k]/\Q (.int (if k then 1 else 0)) H):=by
 walk_at "f"
 rcases h with ⟨i,rfl,q⟩ | ⟨k,rfl,q⟩
 ·obtain ⟨u,rfl,t,rfl⟩:=vals1 r
  exact call_int_int ⟨.int i,H,I,⟨_,rfl⟩,q⟩
 ·obtain ⟨u,rfl,r1⟩:=vals1 r
  cases r1
  exact call_int_bool ⟨.int (if k then 1 else 0),H,I.tok _,⟨_,rfl⟩,q⟩
theorem Bj:gP X (.type "str") (fun xs H Q=>∃ i,xs=[.int i]/\i.natAbs.log2<1920/\Q (.str (toString i)) H):=by
 walk_at "f"
 obtain ⟨i,rfl,hz,q⟩:=h
 obtain ⟨u,rfl,t,rfl⟩:=vals1 r
 exact PySem.P.str_of_int hz ⟨.str _,H,I.tok _,⟨_,rfl⟩,q⟩
noncomputable def LenV (K:aW) (x:V) (H:Hp) (n:Nat):Prop :=
 match x with
 | .str y=>y.length<=sizeLine/\n=y.length
 | .byt y=>y.size<=sizeLine/\n=y.size
 | .ref p=>(∃ xs,SqL K H p xs/\n=xs.length)\/∃ xs,SqT K H p xs/\n=xs.length
 | _=>False
theorem agK:gP X (.builtin "len") (fun xs H Q=>∃ x n,xs=[x]/\LenV X.K x H n/\Q (.int n) H):=by
 walk_at "f"
 obtain ⟨x,n,rfl,e,q⟩:=h
 obtain ⟨u,rfl,rx⟩:=vals1 r
 have hl:=Q8
 have hs:sizeLine=16777216:=Pj
 cases x with
 | str y =>
  obtain ⟨t,rfl⟩:=rx
  obtain ⟨hy,e'⟩:y.length<=sizeLine/\n=y.length:=e
  subst e'
  exact len_str tb_g% ⟨.int _,H,I.tok _,⟨_,rfl⟩,q⟩
 | byt y =>
  obtain ⟨t,rfl⟩:=rx
  obtain ⟨hy,e'⟩:y.size<=sizeLine/\n=y.size:=e
  subst e'
  exact PySem.W.len_bytes tb_g% ⟨.int _,H,I.tok _,⟨_,rfl⟩,q⟩
 | ref p =>
  cases rx
  have e':(∃ xs,SqL X.K H p xs/\n=xs.length)\/∃ xs,SqT X.K H p xs/\n=xs.length:=e
  rcases e' with ⟨xs,hx,e'⟩ | ⟨xs,hx,e'⟩
  ·subst e'
   obtain ⟨its,r',pl,hz⟩:=I.list hx
   have hlen:=r'.length
   exact Calls.call_len_list pl.isList (by simp only [cW];lia) ⟨.int xs.length,H,I.tok _,⟨_,by simp only [cW];rw [hlen]⟩,q⟩
  ·subst e'
   obtain ⟨its,r',pl,hz⟩:=I.tuple hx
   have hlen:=r'.length
   exact len_tuple pl (by simp only [cW];lia) ⟨.int xs.length,H,I.tok _,⟨_,by simp only [cW];rw [hlen]⟩,q⟩
 | _=>exact (show False from e).elim
end
structure YT (h:Heap) (x dx C:Addr) (mA:Str->Option Value):Prop where
 obj:h.get? x=some (wC C dx)
 ns:h.Ns1 dx mA
 ne:dx≠x
theorem aci (n:h.Ns1 dx mA):∃ od,h.get? dx=some od/\∀ name,Qc name od=some (mA name):=by
 obtain ⟨o,es,ep,ho,hd,hk,_,hm⟩:=n
 refine ⟨o,ho,fun name=>?_⟩
 have e:=hm name
 unfold nsFind findBy at e
 rw [<- Array.find?_toList] at e
 unfold Qc
 rw [hd]
 dsimp only
 split
 ·rename_i y q
  rw [q] at e
  exact congrArg some e
 ·rename_i q
  rw [q] at e
  have a:es.toList.any (·.refKey)=false:=by
   rw [List.any_eq_false]
   intro y hy
   obtain ⟨z,t,hkey⟩:=hk y (Array.mem_toList_iff.mp hy)
   simp [amJ,hkey]
  have a':¬ es.toList.any (·.refKey)=true:=by rw [a];exact gO
  rw [if_neg a']
  exact congrArg some e
theorem YT.look {x:Addr} (I:YT h x dx C mA):∃ od,PySem.W.InstAt h x (wC C dx) C (some od)/\∀ name,Qc name od=some (mA name) :=
 let ⟨od,ho,hl⟩:=aci I.ns
 ⟨od,⟨I.obj,rfl,rfl,ho⟩,hl⟩
section
variable {s:Shared} {K:aW} {x f:Addr} {v:Value}
theorem get_map {expr:Bool} (X:K.In s.heap) (I:YT s.heap x dx C mA) (hg:Eh K C name=true) (hh:Jk K C=true)
  (ha:gK K (.ref C) name=some none) (hv:mA name=some v) (hv':aeo v=true) (h:Q v { s with toks:=s.toks+1 }) :
  wpAny (model prog w) A (getAttr (.ref x) name expr) Q E s:=by
 obtain ⟨od,J,hl⟩:=I.look
 exact PySem.W.get_value X J (Xd hg).1 (PySem.W.findObj_own hh ha rfl (by rw [hl,hv])) hv' h
theorem agL {Q:Value × List Value->Shared->Prop} (X:K.In s.heap) (I:YT s.heap x dx C mA) (hg:Eh K C name=true)
  (hf:gK K (.ref C) name=some (some (.ref f))) (ht:Jp K (.ref f)=true) (hv:mA name=none) (h:Q (.ref f,[.ref x]) s) :
  wpAny (model prog w) A (Jc (.ref x) name pl) Q E s:=by
 obtain ⟨od,J,hl⟩:=I.look
 exact PySem.W.method_fn X J (Xd hg).1 (Xd hg).2 hf (beq_iff_eq.mp ht) (by show (Qc name od).map (·.isSome)=some false;rw [hl,hv];rfl) h
theorem ai0 {ns:List Str} {Q:Unit->Shared->Prop} (X:K.In s.heap) (I:YT s.heap x dx C mA)
  (hs:gK K (.ref C) "__setattr__" = some (some (.builtin "object.__setattr__"))) (hp:P0 K C=true) (ht:Xg K C name=some none) (hh:Jk K C=true)
  (hw:Ww mA ns) (hsz:ns.length<=sizeLine)
  (h:∀ h',YT h' x dx C (fun y=>if y=name then some v else mA y)->wG dx s.heap h'->Q () { s with heap:=h',toks:=s.toks+2 }) :
  wpAny (model prog w) A (setAttr (.ref x) name v) Q E s:=by
 obtain ⟨od,J,hl⟩:=I.look
 refine PySem.W.set_plain X J hs (PySem.W.osa_open (s:={ s with toks:=s.toks+1 }) (r:=none) X J hp ht fun b=>?_)
 obtain ⟨cd,hc,hd'⟩:=PySem.W.any_some hh
 have hx:s.heap.get? x=some ⟨.ref C,some dx,.plain,#[]⟩:=I.obj
 refine aJ (aR (aJ (aJ (wpAny_loadPart hx (aJ (al7 (s:={ s with toks:=s.toks+1 }) (PySem.W.looks_clsIn X hc) ?_))))))
 rw [hd']
 refine aR (a:=some dx) (aJ (aR (aJ ?_)))
 refine wpAny_nsSet1 (s:={ s with toks:=s.toks+1 }) I.ns fun h' hn2 hs2=>?_
 obtain ⟨oD,esD,epD,hoD,hdD,hcD⟩:=hn2.count (amF name v hw)
 refine aJ (wpAny_lookBehind hoD (by rw [hdD];exact pastItsLine_dict (gM hcD (by rw [dH];lia))) ?_)
 exact aR (h _ ⟨(hs2.2 _ (aU I.ne)).trans I.obj,hn2,I.ne⟩ hs2)
theorem agM {R:lU->Shared->Prop} {vs:List Value} (X:K.In s.heap) (hm:Qa K C=true)
  (hi:gK K (.ref C) "__init__" = some (some (.ref f))) (hf:wD K (.ref f)=some (.type "function"))
  (h:f9 (model prog w) (A.under (.builtin "type.__call__" ⟨.ref C::vs,kw⟩)) (.call (.ref f) ⟨.ref (s.heap.objs.size+1)::vs,kw⟩) (PySem.W.InitBack (s.heap.objs.size+1) R)
   { s with heap:=(s.heap.push Ay).push (wC C s.heap.objs.size) }) :
  f9 (model prog w) A (.call (.ref C) ⟨vs,kw⟩) R s:=by
 obtain ⟨hh,g,d,t,os⟩:=s
 exact PySem.W.make_core (PySem.W.makes_of X hm) (PK X hi) (fun self=>PySem.W.bind_fn X self hf) (.inl rfl) h
end
noncomputable def bV (f:Str) (v:V):List (Str × V)->List (Str × V)
 | []=>[(f,v)]
 | (g,x)::r=>if g=f then (g,v)::r else (g,x)::bV f v r
theorem Gp (f g:Str) (v:V):∀ fs:List (Str × V),(bV f v fs).lookup g=if g=f then some v else fs.lookup g
 | []=>by
  show zA g [(f,v)]=_
  by_cases h:g=f
  ·have hb:(g == f)=true:=beq_iff_eq.mpr h
   simp only [zA,hb,if_pos h]
  ·have hb:(g == f)=false:=beq_eq_false_iff_ne.mpr h
   simp only [zA,hb,if_neg h]
 | (k,x)::r=>by
  have ih:=Gp f g v r
  rw [show bV f v ((k,x)::r)=(if k=f then (k,v)::r else (k,x)::bV f v r) from rfl]
  by_cases hk:k=f
  ·rw [if_pos hk]
   by_cases h:g=k
   ·have hb:(g == k)=true:=beq_iff_eq.mpr h
    simp only [zA,hb,if_pos (h.trans hk)]
   ·have hb:(g == k)=false:=beq_eq_false_iff_ne.mpr h
    simp only [zA,hb,if_neg (fun e:g=f=>h (e.trans hk.symm))]
  ·rw [if_neg hk]
   by_cases h:g=k
   ·have hb:(g == k)=true:=beq_iff_eq.mpr h
    simp only [zA,hb,if_neg (fun e:g=f=>hk (h.symm.trans e))]
   ·have hb:(g == k)=false:=beq_eq_false_iff_ne.mpr h
    simp only [zA,hb]
    exact ih
theorem Fl (f:Str) (v:V):∀ fs:List (Str × V),f∈(bV f v fs).map (·.1)/\∀ g,g∈fs.map (·.1)->g∈(bV f v fs).map (·.1)
 | []=>⟨by simp [bV],fun g h=>by simp at h⟩
 | (k,x)::r=>by
  obtain ⟨i1,i2⟩:=Fl f v r
  rw [show bV f v ((k,x)::r)=(if k=f then (k,v)::r else (k,x)::bV f v r) from rfl]
  by_cases hk:k=f
  ·rw [if_pos hk]
   subst hk
   exact ⟨by simp,fun g h=>by simpa using h⟩
  ·rw [if_neg hk]
   refine ⟨?_,fun g h=>?_⟩
   ·rw [dW]
    exact fB _ i1
   ·rw [dW] at h ⊢
    rcases cP.mp h with e | e
    ·exact cP.mpr (.inl e)
    ·exact fB _ (i2 g e)
theorem Gq (f:Str) (v:V):∀ fs:List (Str × V),(bV f v fs).length<=fs.length+1
 | []=>by simp [bV]
 | (k,x)::r=>by
  have ih:=Gq f v r
  rw [show bV f v ((k,x)::r)=(if k=f then (k,v)::r else (k,x)::bV f v r) from rfl]
  by_cases hk:k=f
  ·rw [if_pos hk,dH,dH];lia
  ·rw [if_neg hk,dH,dH];lia
theorem vO.some_of {o:Option Value} (r:vO (some v) o):∃ u,o=some u/\RelV v u:=by
 cases o with
 | none=>exact (show False from r).elim
 | some u=>exact ⟨u,rfl,r⟩
theorem vO.none_of {o:Option Value} (r:vO none o):o=none:=by
 cases o with
 | none=>rfl
 | some u=>exact (show False from r).elim
theorem acj (r:RelV v u):aeo u=true:=by
 cases v with
 | non=>cases (show u=Value.none from r);rfl
 | bl b=>cases (show u=Value.bool b from r);rfl
 | int i=>obtain ⟨t,e⟩:=(show ∃ t,u=Value.int i t from r);cases e;rfl
 | str x=>obtain ⟨t,e⟩:=(show ∃ t,u=Value.str x t from r);cases e;rfl
 | byt b=>obtain ⟨t,e⟩:=(show ∃ t,u=Value.bytes b t from r);cases e;rfl
 | flt b=>obtain ⟨t,e⟩:=(show ∃ t,u=Value.float b t from r);cases e;rfl
 | ref a=>cases (show u=Value.ref a from r);rfl
 | ty n=>cases (show u=Value.type n from r);rfl
section
variable {fs fs':List (Str × V)}
theorem Hz (hok:HOk P w H h) (e:H a=some (.ins C dx fs)):∃ mA,YT h a dx C mA/\(∀ f,vO (fs.lookup f) (mA f))/\Ww mA (fs.map (·.1))/\fs.length<=1000/\H dx=some (.own a):=by
 obtain ⟨d,z,ne,ob,mA,n,r,q⟩:=(show dG P w H h a (.ins C dx fs) from hok a _ e)
 exact ⟨mA,⟨ob,n,ne⟩,r,q,z,d⟩
end
structure Cls (K:aW) (C:Addr):Prop where
 pg:Eh K C Xv=true
 hd:Jk K C=true
 po:P0 K C=true
 sa:gK K (.ref C) "__setattr__" = some (some (.builtin "object.__setattr__"))
theorem Cls.get {K:aW} (c:Cls K C) (f:Str):Eh K C f=true:=c.pg
noncomputable def cA (K:aW) (C:Addr) (f:Str):Prop:=gK K (.ref C) f=some none
theorem cA.taker {K:aW} {f:Str} (n:cA K C f):Xg K C f=some none:=by
 unfold Xg
 rw [show gK K (.ref C) f=some none from n]
 rfl
structure Con (K:aW) (C:Addr) (f:Str) (v:V) (u:Value):Prop where
 at_:gK K (.ref C) f=some (some u)
 rel:RelV v u
 get:Ef K u "__get__" = some none
 cp:PySem.W.copiedNames.contains f=false
structure Meth (K:aW) (C:Addr) (m:Str) (f:Addr):Prop where
 at_:gK K (.ref C) m=some (some (.ref f))
 fn:Jp K (.ref f)=true
 kp:ux K (.ref f)=true
section
variable {s:Shared} {fs:List (Str × V)} {f:Str}
theorem YW {b:Bool} (I:Inv X pins σ H s) (e:H a=some (.ins C dx fs)) (c:Cls X.K C) (n:cA X.K C f) (l:fs.lookup f=some v)
  (h:∀ u s',Inv X pins σ H s'->RelV v u->Q u s'):wpAny (model X.prog X.w) A (getAttr (.ref a) f b) Q E s:=by
 obtain ⟨mA,O,r,_,_,_⟩:=Hz I.hok e
 obtain ⟨u,hu,ru⟩:=vO.some_of (v:=v) (o:=mA f) (by rw [<- l];exact r f)
 exact get_map I.kIn O (c.get f) c.hd n hu (acj ru) (h u _ (I.tok _) ru)
theorem z9 {g:Addr} {Q:Value × List Value->Shared->Prop} (I:Inv X pins σ H s) (e:H a=some (.ins C dx fs)) (c:Cls X.K C) (k:Meth X.K C m g) (l:fs.lookup m=none)
  (h:Q (.ref g,[.ref a]) s):wpAny (model X.prog X.w) A (Jc (.ref a) m pl) Q E s:=by
 obtain ⟨mA,O,r,_,_,_⟩:=Hz I.hok e
 have hn:mA m=none:=vO.none_of (by rw [<- l];exact r m)
 exact agL I.kIn O (c.get m) k.at_ k.fn hn h
theorem YX {Q:Unit->Shared->Prop} (I:Inv X pins σ H s) (e:H a=some (.ins C dx fs)) (c:Cls X.K C) (n:cA X.K C f) (hl:fs.length<1000) (ry:RelV y u)
  (h:∀ s',Inv X pins σ (upd H a (.ins C dx (bV f y fs))) s'->Q () s'):wpAny (model X.prog X.w) A (setAttr (.ref a) f u) Q E s:=by
 obtain ⟨mA,O,r,wi,_,ho⟩:=Hz I.hok e
 have hz:(fs.map (·.1)).length<=sizeLine:=by rw [aZ,Pj];lia
 refine ai0 I.kIn O c.sa c.po n.taker c.hd wi hz fun h' O' sb=>h _ ?_
 have hd:∃ o,h'.get? dx=some o:=let ⟨o,_,_,e',_⟩:=O'.ns;⟨o,e'⟩
 refine I.write (x:=a) (e:=dx) (by rw [e];exact True.intro) (.inr ho) (fun b q hb z=>(sb.2 b hb).trans z) hd ?_
 refine ⟨by rw [aA O.ne];exact ho,?_,O.ne,O'.obj,_,O'.ns,fun g=>?_,fun g hg=>?_⟩
 ·have:=Gq f y fs;lia
 ·show vO ((bV f y fs).lookup g) (if g=f then some u else mA g)
  rw [Gp]
  by_cases q:g=f
  ·rw [if_pos q,if_pos q];exact ry
  ·rw [if_neg q,if_neg q];exact r g
 ·by_cases q:g=f
  ·rw [q];exact (Fl f y fs).1
  ·refine (Fl f y fs).2 g (wi g fun z=>hg ?_)
   show (if g=f then some u else mA g)=none
   rw [if_neg q];exact z
theorem Inv.made (I:Inv X pins σ H s):Inv X pins σ (upd (upd H s.heap.objs.size (.own (s.heap.objs.size+1))) (s.heap.objs.size+1) (.ins C s.heap.objs.size []))
  { s with heap:=(s.heap.push Ay).push (wC C s.heap.objs.size) }:=by
 have e1:(s.heap.push Ay).get? s.heap.objs.size=some Ay:=eU s.heap rfl
 have e2:((s.heap.push Ay).push (wC C s.heap.objs.size)).get? (s.heap.objs.size+1)=some (wC C s.heap.objs.size):=by
  have:=eU (s.heap.push Ay) (o:=wC C s.heap.objs.size) rfl
  rwa [wF] at this
 have e3:(s.heap.push Ay).Ns s.heap.objs.size (fun _=>none):=⟨Ay,#[],_,e1,rfl,(fun e he=>absurd he (by simp)),fun _=>rfl⟩
 have I1:=I.laid (a:=s.heap.objs.size) (o:=.own (s.heap.objs.size+1)) (h':=s.heap.push Ay) (t':=s.toks) (fun b u q=>dX _ q) (bh _) ⟨_,e1⟩
 refine I1.laid (a:=s.heap.objs.size+1) (o:=.ins C s.heap.objs.size []) (t':=s.toks) (fun b u q=>dX _ q) (Ju (wF _ _)) ?_
 have ne:s.heap.objs.size≠s.heap.objs.size+1:=cM (wI _)
 refine ⟨by rw [aA ne,ak],dF _,ne,e2,fun _=>none,(amG e3).at fun o q=>dX _ q,fun _=>True.intro,fun y hy=>absurd rfl hy⟩
theorem ai1 {env:Env} {f:Str} {pos:Pos} {s:Shared} (hb:v9 e f env (eval e env)=eval e env)
  (h:wpAny (model prog w) A (eval e env) (fun o s₁=>wpAny (model prog w) A (getAttr o f true) Q E s₁) E s):wpAny (model prog w) A (eval (.Attribute e f pos) env) Q E s :=
 Attribute_any_ h (by rw [arm_eval_Attribute,hb])
end
noncomputable def rFld (K:aW) (f:Str) (x:V) (H1:Hp) (Q:VK):Prop:=∃ a C dx fs v,x = .ref a/\H1 a=some (.ins C dx fs)/\Cls K C/\cA K C f/\fs.lookup f=some v/\Q v H1
@[reducible] noncomputable def agN (K:aW) (ta:TE) (f:Str):TE:=fun σ H Q=>ta σ H fun x H1=>rFld K f x H1 Q
noncomputable def sFld (K:aW) (ta tv:TE) (f:Str):TS:=fun D σ H=>tv σ H fun y H1=>ta σ H1 fun x H2=>∃ a C dx fs,x = .ref a/\H2 a=some (.ins C dx fs)/\Cls K C/\cA K C f/\fs.length<1000 /\
 D.nx σ (upd H2 a (.ins C dx (bV f y fs)))
section
variable {o value:Expr} {f:Str} {pos tpos:Pos} {tv:TE}
theorem JV (he:PE X e ta) (hb:v9 e f X.env (eval e X.env)=eval e X.env):PE X (.Attribute e f pos) (agN X.K ta f):=by
 walk_at "e"
 refine ai1 hb (thn (he pins s σ H _ I h) fun u s1 ⟨x,H1,I1,rx,a,C,dx,fs,v,ex,ea,c,n,l,q⟩=>?_)
 subst ex
 obtain rfl:u=Value.ref a:=rx
 exact YW I1 ea c n l fun u' s2 I2 ru=>⟨v,H1,I2,ru,q⟩
theorem aV (ha:PE X o ta) (hv:PE X value tv) (hs:Eb value (some (.Attribute o f pos')) pos.line X.env=pure false):PS X (.Assign [.Attribute o f pos'] value pos) (sFld X.K ta tv f):=by
 intro pins s σ H D I h
 refine plainObj_wpAny_Assign_Attribute (thn (hv pins s σ H _ I h) fun u s1 ⟨y,H1,I1,ry,q⟩=>thn (ha pins s1 σ H1 _ I1 q) fun ov s2 ⟨x,H2,I2,rx,a,C,dx,fs,ex,ea,c,n,l,q2⟩=>?_) hs
 subst ex
 obtain rfl:ov=Value.ref a:=rx
 exact YX I2 ea c n l ry fun s3 I3=>⟨σ,_,I3,q2⟩
end
section
variable {s:Shared} {c:Value} {b:Bool}
inductive Aa (K:aW) (H:Hp):V->Value->Prop where
 | non:Aa K H .non (.type "NoneType")
 | bl (x:Bool):Aa K H (.bl x) (.type "bool")
 | int (i:Int):Aa K H (.int i) (.type "int")
 | str (x:Str):Aa K H (.str x) (.type "str")
 | flt (x:UInt64):Aa K H (.flt x) (.type "float")
 | lst {a:Addr} {xs:List V} (e:H a=some (.lst xs)):Aa K H (.ref a) (.type "list")
 | frz {a:Addr} {o:Obj} {xs:List V} (e:H a=some (.frz o (.lst xs))):Aa K H (.ref a) (.type "list")
 | tup {a:Addr} {xs:List V} (e:H a=some (.tup xs)):Aa K H (.ref a) (.type "tuple")
 | dK {a:Addr} {kvs:List (Key × V)} (e:H a=some (.dK kvs)):Aa K H (.ref a) (.type "dict")
 | dT {a:Addr} {kvs:List (List Key × V)} (e:H a=some (.dT kvs)):Aa K H (.ref a) (.type "dict")
 | ins {a C dx:Addr} {fs:List (Str × V)} (e:H a=some (.ins C dx fs)) (cl:Cls K C) (ha:gK K (.ref C) "__class__" = some (some (.builtin "object.__class__")))
   (hn:Ef K (.builtin "object.__class__") "__get__" = some (some (.builtin "getset_descriptor.__get__"))) (htk:Jl K (.builtin "object.__class__")=some true)
   (hm:jA K C (.type "object")=some true):Aa K H (.ref a) (.ref C)
theorem acn {x:V} {t:Value} (I:Inv X pins σ H s) (rx:RelV x u) (ty:Aa X.K H x t) (e:oZ X.K t c=some b) (h:∀ tk,Q (.bool b) { s with toks:=tk }) :
  wpAny (model X.prog X.w) A (call (.builtin "isinstance") [u,c]) Q E s:=by
 cases ty with
 | non=>cases (show u=Value.none from rx);exact vA PySem.W.kitx_none I.kIn True.intro e (fun z=>nomatch z) h
 | bl y=>cases (show u=Value.bool y from rx);exact vA PySem.W.kitx_bool I.kIn True.intro e (fun z=>nomatch z) h
 | int i=>obtain ⟨t,q⟩:=(show ∃ t,u=Value.int i t from rx);cases q;exact vA PySem.W.kitx_int I.kIn True.intro e (fun z=>nomatch z) h
 | str y=>obtain ⟨t,q⟩:=(show ∃ t,u=Value.str y t from rx);cases q;exact vA PySem.W.kitx_str I.kIn True.intro e (fun z=>nomatch z) h
 | flt y=>obtain ⟨t,q⟩:=(show ∃ t,u=Value.float y t from rx);cases q;exact vA PySem.W.kitx_float I.kIn True.intro e (fun z=>nomatch z) h
 | @lst a xs ea =>
  cases (show u=Value.ref a from rx)
  obtain ⟨_,_,n,_,h1⟩:=(show dG X.prog X.w H s.heap a (.lst xs) from I.hok a _ ea)
  exact vA aem I.kIn ⟨_,h1,rfl⟩ e (fun z=>nomatch z) h
 | @frz a ob xs ea =>
  cases (show u=Value.ref a from rx)
  obtain ⟨_,_,_,n,_,h1⟩:=(show dG X.prog X.w H s.heap a (.frz ob (.lst xs)) from I.hok a _ ea)
  exact vA aem I.kIn ⟨_,h1,rfl⟩ e (fun z=>nomatch z) h
 | @tup a xs ea =>
  cases (show u=Value.ref a from rx)
  obtain ⟨_,_,_,p⟩:=(show dG X.prog X.w H s.heap a (.tup xs) from I.hok a _ ea)
  obtain ⟨o,h1,h2,_⟩:=p
  exact vA PySem.W.kitx_tuple I.kIn ⟨o,h1,h2⟩ e (fun z=>nomatch z) h
 | @dK a kvs ea =>
  cases (show u=Value.ref a from rx)
  obtain ⟨_,_,vs,_,p⟩:=(show dG X.prog X.w H s.heap a (.dK kvs) from I.hok a _ ea)
  obtain ⟨o,es,ep,h1,h2,_⟩:=p
  exact vA aen I.kIn ⟨o,h1,h2.1⟩ e (fun z=>nomatch z) h
 | @dT a kvs ea =>
  cases (show u=Value.ref a from rx)
  obtain ⟨_,_,xs,_,o,es,ep,h1,h2,_⟩:=(show dG X.prog X.w H s.heap a (.dT kvs) from I.hok a _ ea)
  exact vA aen I.kIn ⟨o,h1,h2.1⟩ e (fun z=>nomatch z) h
 | @ins a C dx fs ea cl ha hn htk hm =>
  cases (show u=Value.ref a from rx)
  obtain ⟨mA,O,_⟩:=Hz I.hok ea
  obtain ⟨od,J,_⟩:=O.look
  exact vA (PySem.W.kitx_own (cl.get _) cl.hd ha hn htk hm) I.kIn J e (fun z=>nomatch z) h
end
structure jF (k:Nat) (A:bH):Prop where
 hd:A.handled=none
 dp:A.depth+3*k+5<recursionLimit
 un:A.units+16*k+200<cLine
theorem jF.mono {j:Nat} (r:jF k A) (h:j<=k):jF j A:=⟨r.hd,by have:=r.dp;lia,by have:=r.un;lia⟩
theorem jF.deeper (r:jF (k+1) A) (env:Env):jF k (A.deeper env) :=
 ⟨r.hd,by have:=r.dp;show A.depth+1+3*k+5<_;lia,by have:=r.un;show A.units+3+16*k+200<_;lia⟩
theorem jF.in1 (r:jF (k+1) A):jF k A.in1 :=
 ⟨r.hd,by have:=r.dp;show A.depth+3*k+5<_;lia,by have:=r.un;show A.units+1+16*k+200<_;lia⟩
theorem YZ :(A.under (.builtin "type.__call__" ⟨.ref C::us,kw⟩)).depth=A.depth+1:=by
 first | rfl | simp [Yj,Code.weight,Code.isCreation,Code.isGuard,Code.isCaller,afN,Yp,guardIds]
theorem Y0 :(A.under (.builtin "type.__call__" ⟨.ref C::us,kw⟩)).units=A.units+1:=by
 first | rfl | simp [Yj,Code.cUnits,afN,Yp]
theorem jF.make (r:jF (k+1) A) (C:Addr) (us:List Value) (kw:List (Str × Value)):jF k (A.under (.builtin "type.__call__" ⟨.ref C::us,kw⟩)) :=
 ⟨r.hd,by have:=r.dp;rw [YZ];lia,by have:=r.un;rw [Y0];lia⟩
theorem jF.depth (r:jF k A):A.depth<recursionLimit:=by have:=r.dp;lia
theorem jF.units (r:jF k A):A.units+64<cLine:=by have:=r.un;lia
@[reducible] noncomputable def tNil:TA:=fun _ H Q=>Q [] H
@[reducible] noncomputable def T8 (ta:TE) (tr:TA):TA:=fun σ H Q=>ta σ H fun x H1=>tr σ H1 fun xs H2=>Q (x::xs) H2
section
variable {pos:Pos}
theorem au:PA X [] tNil:=fun _ _ _ _ H Q I h=>Er ⟨[],H,I,.nil,h⟩
theorem aj (ha:PE X e te) (hr:PA X es t) (hs:cO (e::es) X.env=(false,eval e X.env)::cO es X.env:=by rfl):PA X (e::es) (T8 te t):=by
 intro pos pins s σ H Q I h
 rw [hs]
 show wpAny _ _ (spliced ((false,eval e X.env)::gh pos (cO es X.env))) _ _ s
 refine zX (thn (ha pins s σ H _ I h) fun u s1 ⟨x,H1,I1,r1,q1⟩=>?_)
 exact thn (hr pos pins s1 σ H1 _ I1 q1) fun us s2 ⟨xs,H2,I2,r2,q2⟩=>⟨x::xs,H2,I2,.cons r1 r2,q2⟩
noncomputable def tTup (t:TA):TE:=fun σ H Q=>t σ H fun xs H1=>xs.length<=sizeLine/\∀ p,H1 p=none->Q (.ref p) (upd H1 p (.tup xs))
noncomputable def tLst (t:TA):TE:=fun σ H Q=>t σ H fun xs H1=>xs.length<=sizeLine/\∀ p,H1 p=none->Q (.ref p) (upd H1 p (.lst xs))
theorem lY {x1} (h:PA X es t):PE X (.Tuple es x1 pos) (tTup t):=by
 intro pins s σ H Q I hq
 refine wpAny_Tuple_spliced (thn (h pos pins s σ H _ I hq) fun us s1 ⟨xs,H1,I1,r,z,q⟩=>⟨by rw [<- r.length];exact z,?_⟩)
 have hf:H1 s1.heap.objs.size=none:=I1.hok.fresh (bh _)
 refine ⟨.ref s1.heap.objs.size,upd H1 s1.heap.objs.size (.tup xs),I1.laid (t':=s1.toks) (fun b u e=>dX _ e) (bh _) ?_,rfl,q _ hf⟩
 exact ⟨z,us,r,⟨_,eU _ rfl,rfl,_,rfl⟩⟩
theorem dR (h:PA X es t):PE X (.List es pos) (tLst t):=by
 intro pins s σ H Q I hq
 refine wpAny_List_spliced (thn (h pos pins s σ H _ I hq) fun us s1 ⟨xs,H1,I1,r,z,q⟩=>⟨by rw [<- r.length];exact z,?_⟩)
 have hf:H1 s1.heap.objs.size=none:=I1.hok.fresh (bh _)
 refine ⟨.ref s1.heap.objs.size,upd H1 s1.heap.objs.size (.lst xs),I1.laid (t':=s1.toks) (fun b u e=>dX _ e) (bh _) ?_,rfl,q _ hf⟩
 exact ⟨z,us,0,r,eU _ rfl⟩
end
noncomputable abbrev Sp:=List V->Hp->VK->XK->Prop
variable {sp:Sp}
noncomputable abbrev CXT:=List Env->Hp->Shared->XK->Value->Shared->Prop
variable {CX:CXT}
structure Ly (P:aP) (w:World) (K:aW) (mg:Str->Option Value) (base:Heap) (A:bH) (outer:List Env) (s:Shared) (H:Hp):Prop where
 frames:A.frames=some outer
 mod:Mod K mg base
 bs:∀ b o,base.get? b=some o->s.heap.get? b=some o/\H b=none
 bsz:base.objs.size<=s.heap.objs.size
 z7:s.heap.FunFrames base outer
 frf:∀ b∈frs outer,H b=none
 hok:HOk P w H s.heap
 bare:rP s.gens
noncomputable def CE (outer:List Env) (P:aP) (w:World) (H:Hp) (s:Shared) (Q:VK) (u:Value) (s':Shared):Prop :=
 ∃ v H',s'.os=s.os/\rP s'.gens/\Un (frs outer) [] H H' s.heap s'.heap/\HOk P w H' s'.heap/\RelV v u/\Q v H'
noncomputable def CR (CX:CXT) (outer:List Env) (P:aP) (w:World) (H:Hp) (s:Shared) (Q:VK) (E:XK) (r:lU) (s':Shared):Prop :=
 match r with
 | .ok (.ret u)=>CE outer P w H s Q u s'
 | .ok _=>False
 | .error e=>CX outer H s E e s'
structure cB (P:aP) (w:World) (K:aW) (mg:Str->Option Value) (base:Heap) (CX:CXT) (k:Nat) (f:Addr) (fd:FuncData) (ps:List Str) (sp:Sp):Prop where
 len:∀ vs H Q E,sp vs H Q E->vs.length=ps.length
 run:∀ (A:bH) (outer:List Env) (s:Shared) (H:Hp) (args:Args) (us:List Value) (vs:List V) (Q:VK) (E:XK),jF k A->Ly P w K mg base A outer s H->Ec s fd args (ps.zip us)->Vals vs us->sp vs H Q E ->
  f9 (model P w) A (.call (.ref f) args) (CR CX outer P w H s Q E) s
theorem cB.mono {K:aW} {j:Nat} {f:Addr} (F:cB P w K mg base CX j f fd ps sp) (h:j<=k) :
  cB P w K mg base CX k f fd ps sp:=⟨F.len,fun A outer s H args us vs Q E hr=>F.run A outer s H args us vs Q E (hr.mono h)⟩
theorem cB.imp {K:aW} {f:Addr} {sp':Sp} (F:cB P w K mg base CX k f fd ps sp)
  (h:∀ vs H Q E,sp' vs H Q E->sp vs H Q E):cB P w K mg base CX k f fd ps sp' :=
 ⟨fun vs H Q E q=>F.len vs H Q E (h _ _ _ _ q),fun A outer s H args us vs Q E hr he hb hv hs=>F.run A outer s H args us vs Q E hr he hb hv (h _ _ _ _ hs)⟩
theorem Ly.make {K:aW} {s:Shared} (e:Ly P w K mg base A outer s H) (C:Addr) (us:List Value) (kw:List (Str × Value)) :
  Ly P w K mg base (A.under (.builtin "type.__call__" ⟨.ref C::us,kw⟩)) outer s H:=⟨by first | exact e.frames | (simpa [Yj,Code.envs,Yp,pushEnvs] using e.frames),e.mod,e.bs,e.bsz,e.z7,e.frf,e.hok,e.bare⟩
theorem Ly.in1 {K:aW} {s:Shared} (e:Ly P w K mg base A outer s H) :
  Ly P w K mg base A.in1 outer s H:=⟨e.frames,e.mod,e.bs,e.bsz,e.z7,e.frf,e.hok,e.bare⟩
section
variable {s:Shared}
theorem Inv.env0 (I:Inv X pins σ H s):Ly X.prog X.w X.K X.mg X.base X.A X.stack s H :=
 ⟨I.ok.frames,I.ok.mod,I.bs,gM I.ok.bsz I.sz,I.stack,I.yj,I.hok,I.bare⟩
theorem Inv.after {Q:VK} (I:Inv X pins σ H s) (h:CE X.stack X.prog X.w H s Q u s'):EP X pins σ Q u s':=by
 obtain ⟨v,H',os,bare,un,hok,r,q⟩:=h
 obtain ⟨hh,g,d,t,os'⟩:=s'
 obtain rfl:os'=s.os:=os
 exact ⟨v,H',I.call (h':=hh) (g':=g) (d':=d) (t':=t) (ch:=[]) un hok bare (fun b z=>absurd z (by simp)),r,q⟩
end
@[reducible] noncomputable def akr (sp:Sp) (dvs:List V) (E:XK) (t:TA):TE:=fun σ H Q=>t σ H fun vs H1=>sp (vs++dvs) H1 Q E
@[reducible] noncomputable def aks (C:Addr) (m:Str) (sp:Sp) (dvs:List V) (E:XK) (ta:TE) (t:TA):TE:=fun σ H Q=>ta σ H fun x H1=>∃ a dx fs,x = .ref a/\H1 a=some (.ins C dx fs)/\fs.lookup m=none /\
 t σ H1 fun vs H2=>sp (x::(vs++dvs)) H2 Q E
noncomputable def tMake (C:Addr) (sp:Sp) (dvs:List V) (E:XK) (t:TA):TE:=fun σ H Q=>t σ H fun vs H1=>∀ x dx,H1 x=none->H1 dx=none->dx≠x ->
 sp (.ref x::(vs++dvs)) (upd (upd H1 dx (.own x)) x (.ins C dx [])) (fun v H2=>v = .non/\Q (.ref x) H2) E
noncomputable def Binds (K:aW) (fd:FuncData) (ps:List Str) (ds:List Value):Prop :=
 ∀ (s:Shared) (us:List Value),K.In s.heap->(us++ds).length=ps.length->Ec s fd ⟨us,[]⟩ (ps.zip (us++ds))
theorem Binds.all {K:aW} (h:∀ us:List Value,us.length=ps.length->zG fd ⟨us,[]⟩=pure (ps.zip us)):Binds K fd ps []:=fun s us _ hl=>by
 rw [Dr] at hl ⊢
 exact .of_eq (h us hl)
noncomputable def Passes (CX:CXT) (X:Cx) (E:XK):Prop:=∀ (pins:List (Addr × Obj)) (σ:St) (H:Hp) (s:Shared) (e:Value) (s':Shared),Inv X pins σ H s->CX X.stack H s E e s'->X.xe e s'
section
variable {f:Addr} {dvs:List V} {ds:List Value} {E:XK} {pos apos:Pos} {o:Expr}
theorem Y4 {s:Shared} {Q:VK} (F:cB X.prog X.w X.K X.mg X.base CX k f fd ps sp) (hr:jF k X.A) (hb:Binds X.K fd ps ds) (hd:Vals dvs ds) (hx:Passes CX X E)
  (I:Inv X pins σ H s) (r:Vals vs us) (h:sp (vs++dvs) H Q E):wpAny (model X.prog X.w) X.A (call (.ref f) us) (EP X pins σ Q) X.xe s:=by
 have r2:Vals (vs++dvs) (us++ds):=r.append hd
 have hl:(us++ds).length=ps.length:=by rw [<- r2.length];exact F.len _ _ _ _ h
 refine wg (uo (F.run X.A X.stack s H ⟨us,[]⟩ (us++ds) (vs++dvs) Q E hr I.env0 (hb s us I.kIn hl) r2 h) fun r s' hq=>?_)
 cases r with
 | error e=>exact hx pins σ H s e s' I hq
 | ok fl =>
  cases fl with
  | ret u=>exact I.after hq
  | next=>exact kY hq
  | brk=>exact kY hq
  | cont=>exact kY hq
theorem ai2 (F:cB X.prog X.w X.K X.mg X.base CX k f fd ps sp) (hr:jF k X.A) (hg:Gl X x) (hm:X.mg x=some (.ref f)) (hk:ux X.K (.ref f)=true) (hb:Binds X.K fd ps ds) (hd:Vals dvs ds) (hx:Passes CX X E)
  (ha:PA X (e::es) t) (hdb:(x == ("__debug__" : Str))=false:=by decide) (he:cO (e::es) X.env=(false,eval e X.env)::cO es X.env:=by rfl) (hpl:(gh pos (cO es X.env)).any (·.1)=false:=by rfl) :
  PE X (.Call (.Name x p) (e::es) [] pos) (akr sp dvs E t):=by
 walk_at "e"
 refine Dw (Bh I hg hm ?_ hdb)
 refine PN (h₀:=X.base) I.ok.mod.kin hk (thn (ha pos pins s σ H _ I h) fun us s1 ⟨vs,H1,I1,r,q⟩=>⟨I1.kIn,?_⟩) he hpl
 exact Y4 F hr hb hd hx I1 r q
theorem cI (he:PE X o ta) (c:Cls X.K C) (hm:Meth X.K C m f) (F:cB X.prog X.w X.K X.mg X.base CX k f fd ps sp) (hr:jF k X.A) (hb:Binds X.K fd ps ds) (hd:Vals dvs ds) (hx:Passes CX X E) (ha:PA X (e::es) t)
  (hst:cO (e::es) X.env=(false,eval e X.env)::cO es X.env:=by rfl) (hpl:(gh pos (cO es X.env)).any (·.1)=false:=by rfl)
  (ht:eval (.Call (.Attribute o m apos) (e::es) [] pos) X.env=(do
   let ov <- eval o X.env
   Je apos.atName
   let (f,first) <- wz [ov] (Jc ov m pl)
   Xa pos f first (gh pos (cO (e::es) X.env)) (zH pos (zF [] X.env))):=by rfl) :
  PE X (.Call (.Attribute o m apos) (e::es) [] pos) (aks C m sp dvs E ta t):=by
 walk_at "e"
 refine Xb (pl:=pl) (thn (he pins s σ H _ I h) fun u s1 ⟨x,H1,I1,rx,a,dx,fs,ex,ea,l,q⟩=>?_) ht
 subst ex
 obtain rfl:u=Value.ref a:=rx
 refine z9 I1 ea c hm l ?_
 refine PN (first:=[.ref a]) (h₀:=X.base) I.ok.mod.kin hm.kp (thn (ha pos pins s1 σ H1 _ I1 q) fun us s2 ⟨vs,H2,I2,r,q2⟩=>⟨I2.kIn,?_⟩) hst hpl
 exact Y4 (us:=.ref a::us) (vs:=.ref a::vs) F hr hb hd hx I2 (.cons rfl r) q2
theorem T9 (he:PE X o ta) (c:Cls X.K C) (hm:Meth X.K C m f) (F:cB X.prog X.w X.K X.mg X.base CX k f fd ps sp) (hr:jF k X.A) (hb:Binds X.K fd ps ds) (hd:Vals dvs ds) (hx:Passes CX X E)
  (ht:eval (.Call (.Attribute o m apos) [] [] pos) X.env=(do
   let ov <- eval o X.env
   Je apos.atName
   let (f,first) <- wz [ov] (Jc ov m pl)
   Xa pos f first (gh pos (cO [] X.env)) (zH pos (zF [] X.env))):=by rfl) :
  PE X (.Call (.Attribute o m apos) [] [] pos) (aks C m sp dvs E ta tNil):=by
 walk_at "e"
 refine Xb (pl:=pl) (thn (he pins s σ H _ I h) fun u s1 ⟨x,H1,I1,rx,a,dx,fs,ex,ea,l,q⟩=>?_) ht
 subst ex
 obtain rfl:u=Value.ref a:=rx
 refine z9 I1 ea c hm l ?_
 exact PySem.W.callWith_K0 (first:=[.ref a]) I1.kIn hm.kp (Y4 (us:=[.ref a]) (vs:=[.ref a]) F hr hb hd hx I1 (.cons rfl .nil) q)
structure Mk (K:aW) (C f:Addr):Prop where
 makes:Qa K C=true
 init:gK K (.ref C) "__init__" = some (some (.ref f))
 fn:Jp K (.ref f)=true
 kp:ux K (.ref C)=true
theorem agO {s:Shared} {Q:VK} (M:Mk X.K C f) (F:cB X.prog X.w X.K X.mg X.base CX k f fd ps sp) (hr:jF (k+1) X.A) (hb:Binds X.K fd ps ds) (hd:Vals dvs ds)
  (hx:Passes CX X E) (I:Inv X pins σ H s) (r:Vals vs us)
  (h:∀ x dx,H x=none->H dx=none->dx≠x->sp (.ref x::(vs++dvs)) (upd (upd H dx (.own x)) x (.ins C dx [])) (fun v H2=>v = .non/\Q (.ref x) H2) E) :
  wpAny (model X.prog X.w) X.A (call (.ref C) us) (EP X pins σ Q) X.xe s:=by
 have hq:=h (s.heap.objs.size+1) s.heap.objs.size (I.hok.fresh (rO _)) (I.hok.fresh (bh _)) (cM (wI _))
 have I2:=Inv.made (C:=C) I
 have r2:Vals (V.ref (s.heap.objs.size+1)::(vs++dvs)) (Value.ref (s.heap.objs.size+1)::(us++ds)):=.cons rfl (r.append hd)
 have hl:(Value.ref (s.heap.objs.size+1)::us++ds).length=ps.length:=by
  have e:=r2.length
  rw [F.len _ _ _ _ hq] at e
  exact e.symm
 refine wg (agM (f:=f) I.kIn M.makes M.init (beq_iff_eq.mp M.fn) (uo (F.run _ X.stack _ _ ⟨Value.ref (s.heap.objs.size+1)::us,[]⟩ (Value.ref (s.heap.objs.size+1)::(us++ds)) _ _ E (hr.make C us [])
  (I2.env0.make C us []) (hb _ (Value.ref (s.heap.objs.size+1)::us) I2.kIn hl) r2 hq) fun r s' hq'=>?_))
 cases r with
 | error e=>exact hx pins σ _ _ e s' I2 hq'
 | ok fl =>
  cases fl with
  | ret u =>
   obtain ⟨v,H',I3,rv,ev,q3⟩:=I2.after hq'
   subst ev
   exact ⟨rv,⟨V.ref (s.heap.objs.size+1),H',I3,rfl,q3⟩⟩
  | next=>exact kY hq'
  | brk=>exact kY hq'
  | cont=>exact kY hq'
theorem gA (M:Mk X.K C f) (F:cB X.prog X.w X.K X.mg X.base CX k f fd ps sp) (hr:jF (k+1) X.A) (hg:Gl X x) (hm:X.mg x=some (.ref C)) (hb:Binds X.K fd ps ds) (hd:Vals dvs ds) (hx:Passes CX X E)
  (ha:PA X (e::es) t) (hdb:(x == ("__debug__" : Str))=false:=by decide) (he:cO (e::es) X.env=(false,eval e X.env)::cO es X.env:=by rfl) (hpl:(gh pos (cO es X.env)).any (·.1)=false:=by rfl) :
  PE X (.Call (.Name x p) (e::es) [] pos) (tMake C sp dvs E t):=by
 walk_at "e"
 refine Dw (Bh I hg hm ?_ hdb)
 refine PN (h₀:=X.base) I.ok.mod.kin M.kp (thn (ha pos pins s σ H _ I h) fun us s1 ⟨vs,H1,I1,r,q⟩=>⟨I1.kIn,?_⟩) he hpl
 exact agO M F hr hb hd hx I1 r q
end
section
variable {f:Addr} {ks:List Str} {E:XK} {pos apos kpos:Pos} {o:Expr} {kws:List ur} {tk:TA} {nm:Option Str}
structure KBinds (K:aW) (fd:FuncData) (ps ks:List Str) (g:List Value->List Value->List Value) (gV:List V->List V->List V):Prop where
 to:∀ (s:Shared) (us ws:List Value),K.In s.heap->(g us ws).length=ps.length->Ec s fd ⟨us,ks.zip ws⟩ (ps.zip (g us ws))
 rel:∀ {vs:List V} {us:List Value} {zs:List V} {ws:List Value},Vals vs us->Vals zs ws->Vals (gV vs zs) (g us ws)
variable {g:List Value->List Value->List Value} {gV:List V->List V->List V}
end
structure aM (N P:List Str) (sc:Scope):Prop where
 kind:sc.kind = .function
 co:sc.isCoroutine=false
 gen:sc.isGenerator=false
 nd:N.Nodup
 pre:N.take P.length=P
 par:∀ x∈P,sc.names.lookup x=some .local\/sc.names.lookup x=some .cell
 amV:∀ y∈sc.names,y.2 ≠ .free
theorem MN :∀ {binds:List (Str × Value)} {m:Str->Option Value},(∀ v,(x,v)∉binds)->bindL kindOf binds m x=m x
 | [],_,_=>rfl
 | (n,v)::r,m,h=>by
  unfold bindL
  rw [MN fun w hw=>h w (fB _ hw)]
  split
  ·have:x≠n:=by rintro rfl;exact h v eN
   simp [this]
  ·rfl
theorem MP :∀ {binds:List (Str × Value)} {m:Str->Option Value},(∀ v,(x,v)∉binds)->bindC kindOf binds m x=m x
 | [],_,_=>rfl
 | (n,v)::r,m,h=>by
  unfold bindC
  rw [MP fun w hw=>h w (fB _ hw)]
  split
  ·rfl
  ·have:x≠n:=by rintro rfl;exact h v eN
   simp [this]
theorem M5 {v:Value}:∀ {P:List Str} {vs:List Value} {i:Nat} {m:Str->Option Value},P.Nodup->P[i]? = some x->vs[i]? = some v->kindOf x=some .local ->
  bindL kindOf (P.zip vs) m x=some v
 | [],_,_,_,_,h,_,_=>by simp at h
 | _::_,[],_,_,_,_,h,_=>by simp at h
 | p::P,w::vs,0,m,nd,h1,h2,hk=>by
  simp at h1 h2;subst h1;subst h2
  show bindL kindOf ((p,w)::P.zip vs) m p=_
  unfold bindL
  rw [MN fun v hv=>(g8.mp nd).1 (Wf hv).1,if_pos hk]
  simp
 | p::P,w::vs,i+1,m,nd,h1,h2,hk=>by
  show bindL kindOf ((p,w)::P.zip vs) m x=_
  unfold bindL
  exact M5 (i:=i) (g8.mp nd).2 (by simpa using h1) (by simpa using h2) hk
theorem M6 {v:Value}:∀ {P:List Str} {vs:List Value} {i:Nat} {m:Str->Option Value},P.Nodup->P[i]? = some x->vs[i]? = some v->kindOf x≠some .local ->
  bindC kindOf (P.zip vs) m x=some v
 | [],_,_,_,_,h,_,_=>by simp at h
 | _::_,[],_,_,_,_,h,_=>by simp at h
 | p::P,w::vs,0,m,nd,h1,h2,hk=>by
  simp at h1 h2;subst h1;subst h2
  show bindC kindOf ((p,w)::P.zip vs) m p=_
  unfold bindC
  rw [MP fun v hv=>(g8.mp nd).1 (Wf hv).1,if_neg hk]
  simp
 | p::P,w::vs,i+1,m,nd,h1,h2,hk=>by
  show bindC kindOf ((p,w)::P.zip vs) m x=_
  unfold bindC
  exact M6 (i:=i) (g8.mp nd).2 (by simpa using h1) (by simpa using h2) hk
noncomputable def start (N:List Str) (vs:List V):St:=vs.map some++vZ (N.length-vs.length) none
noncomputable def Ab (CX:CXT) (P:aP) (w:World) (K:aW) (mg:Str->Option Value) (base:Heap) (N:List Str) (qual:Str) (scope:Scope) (f:Addr) (cd:Value) (A:bH) (outer:List Env) (s:Shared) (H:Hp) (E:XK):Cx where
 prog:=P
 w:=w
 K:=K
 mg:=mg
 base:=base
 A:=A.deeper (j7 qual scope s.heap.objs.size f cd)
 N:=N
 s₀:=s
 H₀:=H
 env:=j7 qual scope s.heap.objs.size f cd
 outer:=outer
 stack:=j7 qual scope s.heap.objs.size f cd::outer
 ex:=[]
 calm:=true
 fn:=fun _=>true
 pn:=[]
 xe:=fun e s'=>wpAny (model P w) (A.deeper (j7 qual scope s.heap.objs.size f cd)) (leaving (j7 qual scope s.heap.objs.size f cd) e) (fun _ s''=>CX outer H s E e s'') (fun e' s''=>CX outer H s E e' s'') s'
theorem Ua {sc:Scope} (h:sc.names.lookup x=some .cell):∃ c,(W6 n sc.names []).lookup x=some c:=by
 have q:=aek sc.names n [] (.inl h)
 exact afs.mp q
theorem aco {K:aW} {f:Addr} {cd:Value} {s s1:Shared} {E:XK} 
  (S:aM N ps scope) (hd:A.handled=none) (e0:Ly P w K mg base A outer s H) (hl:vs.length=ps.length) (r:Vals vs us)
  (x:InCallC s s.heap.objs.size (bindL (j7 qual scope s.heap.objs.size f cd).kindOf (ps.zip us) fun _=>none) (W6 (s.heap.objs.size+1) scope.names []) (bindC (j7 qual scope s.heap.objs.size f cd).kindOf (ps.zip us) fun _=>none) s1) :
  Inv (Ab CX P w K mg base N qual scope f cd A outer s H E) [] (start N vs) H s1:=by
 have hpl:ps.length<=N.length:=by have:=congrArg lQ S.pre;rw [jy] at this;lia
 obtain ⟨h1,tk,rfl,hk⟩:=x.done
 have noA:∀ b:Addr,b∉(Ab CX P w K mg base N qual scope f cd A outer s H E).ex:=fun b z=>absurd (show b∈([]:List Addr) from z) (by simp)
 refine ⟨⟨e0.mod,S.kind,rfl,rfl,bh _,fun y z c h1 h2=>?_,fun y hy=>?_,fun y c _ h=>?_,fun _=>hd,Around.frames_deeper e0.frames,.inr ⟨rfl,rfl⟩,fun b z=>absurd z (noA b),e0.bs,e0.bsz,fun b _ _=>noA b,fun b z=>absurd z (noA b),e0.z7,e0.frf⟩,
  rfl,e0.bare,Un.kept hk,⟨_,x.toInCall.ns,fun i y v h1 h2 h3=>?_⟩,fun y c h=>⟨_,x.cell y c h⟩,e0.hok.fresh (bh _),fun y c h=>?_,fun p hp=>absurd (show p∈([]:List (Addr × Obj)) from hp) (by simp),e0.hok.kept hk,?_⟩
 ·exact name_of_addr x.apart (Dv h1) (Dv h2)
 ·have hy:scope.names.lookup y=some .cell\/scope.names.lookup y=some .free:=hy
  rcases hy with hy | hy
  ·exact Ua hy
  ·exact absurd rfl (S.amV _ (Dv hy))
 ·exact ou (x.above y c (Dv h))
 ·have hi:i<vs.length:=by
   unfold start at h2
   by_cases hi:i<vs.length
   ·exact hi
   ·rw [vm (by simpa using hi)] at h2
    rw [adq] at h2
    split at h2 <;> cases h2
  have ha:vs[i]? = some v:=by
   unfold start at h2
   rw [qm (by simpa using hi),gZ] at h2
   cases e:vs[i]? with
   | none=>rw [e] at h2;cases h2
   | some a=>rw [e] at h2;cases h2;rfl
  obtain ⟨u,hu,rv⟩:=r.get ha
  have hp:ps[i]? = some y:=by
   rw [<- S.pre,List.getElem?_take_of_lt tb_g%];exact h1
  have ndP:ps.Nodup:=by rw [<- S.pre];exact S.nd.sublist (V9 _ _)
  refine ⟨u,rv,?_⟩
  rcases S.par y (List.mem_of_getElem? hp) with k | k
  ·exact .inl ⟨k,M5 ndP hp hu k⟩
  ·obtain ⟨c,e⟩:=Ua (n:=s.heap.objs.size+1) k
   refine .inr ⟨.inl k,c,e,?_⟩
   have q:=x.cell y c e
   rw [M6 ndP hp hu (by show scope.names.lookup y≠_;rw [k];decide)] at q
   exact q
 ·exact e0.hok.fresh (ou (x.above y c (Dv h)))
 ·unfold start
  show _=N.length
  rw [cV,aZ,Dp]
  lia
theorem akt {K:aW} {f:Addr} {params:Arguments} {dV kV doc pm cdv ct oc:Value} {an od:Option Addr}
  {osl:Array (Option Value)} {N ps:List Str} {sp:Sp} (lk:K.lookup f=some ⟨oc,od,.func (lV name qual params body scope dV kV doc pm an cdv ct),osl⟩) (hcd:Jm K cdv qual=true) (S:aM N ps scope)
  (len:∀ vs H Q E,sp vs H Q E->vs.length=ps.length)
  (hbody:∀ (A:bH) (outer:List Env) (s:Shared) (H:Hp) (vs:List V) (Q:VK) (E:XK),jF k (A.deeper (j7 qual scope s.heap.objs.size f cdv))->sp vs H Q E ->
   ∃ t,PSs (Ab CX P w K mg base N qual scope f cdv A outer s H E) body t/\t { nx:=fun _ H'=>Q .non H',rt:=Q } (start N vs) H) :
  cB P w K mg base CX (k+1) f (lV name qual params body scope dV kV doc pm an cdv ct) ps sp:=by
 refine ⟨len,fun A outer s H args us vs Q E hr e0 hb r hsp=>?_⟩
 have hl:=len _ _ _ _ hsp
 have KX:K.In s.heap:=e0.mod.kin.keeps fun b o e=>(e0.bs b o e).1
 have lim:s.heap.NoLimit:=e0.mod.nolimit.keeps fun b o e=>(e0.bs b o e).1
 have hkind:∀ y∈ps.zip us,scope.names.lookup y.1=some .local\/(scope.names.lookup y.1=some .cell/\((W6 (s.heap.objs.size+1) scope.names []).lookup y.1).isSome=true):=fun ⟨n,v⟩ hy=>by
  rcases S.par n (Wf hy).1 with q | q
  ·exact .inl q
  ·exact .inr ⟨q,aek _ _ _ (.inl q)⟩
 refine codeAny_call_function hr.depth (KX _ _ lk) rfl S.co S.gen rfl (PySem.W.codeRec_of KX hcd) (hb _ _ _ _ ?_)
 refine wpAny_newFunctionEnv_cells S.kind hkind fun env he s1 x=>?_
 subst he
 refine ⟨lim.keeps x.toInCall.keep,codeAny_func ?_⟩
 obtain ⟨t,ht,hq⟩:=hbody A outer s H vs Q E (hr.deeper _) hsp
 have I:Inv (Ab CX P w K mg base N qual scope f cdv A outer s H E) [] (start N vs) H s1:=aco S hr.hd e0 hl r x
 refine eO (ht [] s1 (start N vs) H _ I hq) (fun fl s' hs=>?_) fun e s' hs=>hs
 have fin:∀ {σ':St} {H':Hp} {v:V} {u:Value},Inv (Ab CX P w K mg base N qual scope f cdv A outer s H E) [] σ' H' s'->RelV v u->Q v H'->CE outer P w H s Q u s' :=
  fun {σ' H' v u} J rv q=>⟨v,H',J.os,J.bare,J.base,J.hok,rv,q⟩
 cases fl with
 | ret u =>
  obtain ⟨v,σ',H',J,rv,q⟩:=hs
  exact fin J rv q
 | next =>
  obtain ⟨σ',H',J,q⟩:=hs
  exact fin (v:=V.non) (u:=Value.none) J rfl q
 | brk =>
  obtain ⟨_,_,_,q⟩:=hs
  exact kY q
 | cont =>
  obtain ⟨_,_,_,q⟩:=hs
  exact kY q
section
variable {pos:Pos} {id T:String} {r:List V->Hp->VK->Prop}
@[reducible] noncomputable def tCB (r:List V->Hp->VK->Prop) (t:TA):TE:=fun σ H Q=>t σ H fun vs H1=>r vs H1 Q
theorem bO (hc:gP X (.builtin id) r) (hg:Gl X x) (hm:X.mg x=none) (hv:zE x=some (.builtin id)) (ha:PA X (e::es) t) (hn:x ≠ "__name__" := by decide) (hdb:(x == ("__debug__" : Str))=false:=by decide)
  (he:cO (e::es) X.env=(false,eval e X.env)::cO es X.env:=by rfl) (hpl:(gh pos (cO es X.env)).any (·.1)=false:=by rfl):PE X (.Call (.Name x p) (e::es) [] pos) (tCB r t):=by
 walk_at "e"
 refine Dw (nG I hg hm hv ?_ hn hdb)
 exact alF (thn (ha pos pins s σ H _ I h) fun us s1 ⟨vs,H1,I1,r1,q1⟩=>hc pins s1 σ H1 vs us Q I1 r1 q1) he hpl
theorem ji (hc:gP X (.type T) r) (hg:Gl X x) (hm:X.mg x=none) (hv:zE x=some (.type T)) (ha:PA X (e::es) t) (hn:x ≠ "__name__" := by decide) (hdb:(x == ("__debug__" : Str))=false:=by decide)
  (he:cO (e::es) X.env=(false,eval e X.env)::cO es X.env:=by rfl) (hpl:(gh pos (cO es X.env)).any (·.1)=false:=by rfl):PE X (.Call (.Name x p) (e::es) [] pos) (tCB r t):=by
 walk_at "e"
 refine Dw (nG I hg hm hv ?_ hn hdb)
 exact Gm (thn (ha pos pins s σ H _ I h) fun us s1 ⟨vs,H1,I1,r1,q1⟩=>hc pins s1 σ H1 vs us Q I1 r1 q1) he hpl
end
end L2
namespace HT
open PySem PyProof.Rows
section
open PySem.SeqAt
open PySem.AutoSeq1 (wpAny_loadPart')
open PySem.MeetsSeq PySem.MeetsSeq2 PySem.MeetsSeq3
end
section
variable {prog:aP} {w:World} {A:bH} {E:Value->Shared->Prop} {s:Shared}
noncomputable def sIx (n d:Nat):Option Int->Nat
 | none=>d
 | some v=>if v<0 then (v+(n:Int)).toNat else min v.toNat n
end
end HT
namespace L2
open PySem PySem.Spec PyProof.Rows
variable {pins:List (Addr × Obj)} {kvs:List (List Key × V)} {xs:List (List Key × Addr × Value)} {E Q:Value->Shared->Prop} {H H':Hp} {X:Cx} {u v:Value} {σ:St} {a:Addr} {o:Option V} {w:World} {A:bH} {y x:V} {its:List Value} {P:aP} {α:Type} {n t' j:Nat} {e:Expr} {h':Heap} {T:String} {i:Int} {k:Key}
noncomputable abbrev TO:=St->Hp->(Option Int->Hp->Prop)->Prop
noncomputable def PO (X:Cx) (e:Option Expr) (t:TO):Prop :=
 ∀ (pins:List (Addr × Obj)) (s:Shared) (σ:St) (H:Hp) (Q:Option Int->Hp->Prop),Inv X pins σ H s->t σ H Q ->
  wpAny (model X.prog X.w) X.A (evalPart e X.env) (fun u s'=>∃ o H',Inv X pins σ H' s'/\IsPart u o/\Q o H') X.xe s
noncomputable def ai3:TO:=fun _ H Q=>Q none H
noncomputable def tPart (t:TE):TO:=fun σ H Q=>t σ H fun x H1=>∃ i,x = .int i/\Q (some i) H1
theorem intsAre_of {ns:List Int}:∀ {us:List Value},Vals (ns.map V.int) us->IntsAre us ns:=by
 induction ns with
 | nil=>intro us r;rw [Dt] at r;cases r;exact .nil
 | cons n ns ih =>
  intro us r
  rw [dW] at r
  cases r with
  | cons r1 r2 =>
   obtain ⟨t,e⟩:=r1
   subst e
   exact .cons n t (ih r2)
section
variable {te:TE} {lo hi:Option Expr} {tl th:TO} {pos p2:Pos}
theorem ai4:PO X none ai3:=by
 walk_at "e"
 rw [aed]
 exact aR ⟨none,H,I,.none,h⟩
theorem HB (h:PE X e te):PO X (some e) (tPart te):=by
 intro pins s σ H Q I hw
 rw [evalPart_some]
 refine thn (h pins s σ H _ I hw) fun u s1 ⟨x,H1,I1,r1,q1⟩=>?_
 obtain ⟨i,rfl,q⟩:=q1
 obtain ⟨t,rfl⟩:=r1
 exact ⟨some i,H1,I1,.int i t,q⟩
noncomputable def SlR (X:Cx) (r:V->Option Int->Option Int->Hp->VK->Prop):Prop :=
 ∀ (pins:List (Addr × Obj)) (s:Shared) (σ:St) (H:Hp) (x:V) (v vl vu:Value) (lo hi:Option Int) (sl:Addr) (Q:VK),Inv X pins σ H s->RelV x v->s.heap.IsSliceOf sl vl vu .none->IsPart vl lo->IsPart vu hi->r x lo hi H Q ->
  ∃ T id,Pn (.type T) "__getitem__" = pure (some (.builtin id))/\s.TypeIs v T/\wpAny (model X.prog X.w) X.A (Px v (.ref sl)) (EP X pins σ Q) X.xe s
noncomputable def tSl (r:V->Option Int->Option Int->Hp->VK->Prop) (te:TE) (tl th:TO):TE:=fun σ H Q=>te σ H fun x H1=>tl σ H1 fun l H2=>th σ H2 fun u H3=>r x l u H3 Q
theorem agP {r:V->Option Int->Option Int->Hp->VK->Prop} (hr:SlR X r) (he:PE X e te) (hl:PO X lo tl) (hu:PO X hi th):PE X (.Subscript e (.Slice lo hi none p2) pos) (tSl r te tl th):=by
 walk_at "e"
 refine Yi (thn (he pins s σ H _ I h) fun v s1 ⟨x,H1,I1,r1,q1⟩=>?_)
 refine wpAny_Slice (thn (hl pins s1 σ H1 _ I1 q1) fun vl s2 ⟨l,H2,I2,pl,q2⟩=>thn (hu pins s2 σ H2 _ I2 q2) fun vu s3 ⟨u,H3,I3,pu,q3⟩=>?_)
 rw [aed]
 refine aR ?_
 have I4:Inv X pins σ H3 { s3 with heap:=s3.heap.push { cls:=.type "slice",data:=.fields #[vl,vu,.none] } }:=I3.kept (t':=s3.toks) fun b ob q=>dX _ q
 obtain ⟨T,id,hT,ht,hg⟩:=hr pins { s3 with heap:=s3.heap.push { cls:=.type "slice",data:=.fields #[vl,vu,.none] } } σ H3 x v vl vu l u s3.heap.objs.size Q I4 r1 (afK ..) pl pu q3
 show wpAny (model X.prog X.w) X.A (Qw e (.Slice lo hi none p2) v (.ref s3.heap.objs.size)) (EP X pins σ Q) X.xe { s3 with heap:=s3.heap.push { cls:=.type "slice",data:=.fields #[vl,vu,.none] } }
 exact tail_any (ops:=[.ref s3.heap.objs.size,v]) ht hT hg (by with_unfolding_all rfl)
noncomputable def acp (xs:List V) (lo hi:Option Int):List V:=(xs.drop (HT.sIx xs.length 0 lo)).take (HT.sIx xs.length xs.length hi-HT.sIx xs.length 0 lo)
theorem Ub (xs:List V) (lo hi:Option Int):(acp xs lo hi).length<=xs.length:=by
 unfold acp
 rw [jy,Wa]
 lia
end
noncomputable def ixN (n:Nat) (i:Int):Option Nat:=if 0<=i then (if i<n then some i.toNat else none) else if -(n:Int)<=i then some (i+n).toNat else none
noncomputable def atI {α:Type} (xs:List α) (i:Int):Option α:=(ixN xs.length i).bind fun j=>xs[j]?
theorem aaG (h:ixN n i=some j):seqIndex? i n=some j/\j<n /\ -(n:Int)<=i/\i<n:=by
 unfold ixN at h
 by_cases h0:0<=i
 ·rw [if_pos h0] at h
  by_cases h1:i<n
  ·rw [if_pos h1] at h
   have e:i.toNat=j:=bW h
   exact ⟨by rw [Wy h0 h1,e],by lia,by lia,h1⟩
  ·rw [if_neg h1] at h;cases h
 ·rw [if_neg h0] at h
  by_cases h1:-(n:Int)<=i
  ·rw [if_pos h1] at h
   have e:(i+n).toNat=j:=bW h
   exact ⟨by rw [Wx tb_g% h1,e],by lia,h1,by lia⟩
  ·rw [if_neg h1] at h;cases h
theorem aaH {xs:List α} {v:α} (h:atI xs i=some v):∃ j,seqIndex? i xs.length=some j/\xs[j]? = some v/\j<xs.length /\ -(xs.length:Int)<=i/\i<xs.length:=by
 unfold atI at h
 cases e:ixN xs.length i with
 | none=>rw [e] at h;cases h
 | some j =>
  rw [e] at h
  obtain ⟨h1,h2,h3,h4⟩:=aaG e
  exact ⟨j,h1,h,h2,h3,h4⟩
theorem yq {xs:List α} {v:α} (h:xs[j]? = some v):atI xs (j:Int)=some v:=by
 have hj:j<xs.length:=(gH.mp h).1
 have e:ixN xs.length (j:Int)=some j:=by
  unfold ixN
  rw [if_pos tb_g%,if_pos tb_g%];simp
 unfold atI;rw [e];exact h
theorem agQ (xs:List α) (v:α):atI (xs++[v]) (-1)=some v:=by
 have hl:(xs++[v]).length=xs.length+1:=by simp
 have e:ixN (xs++[v]).length (-1)=some xs.length:=by
  unfold ixN
  rw [hl,if_neg (by decide),if_pos tb_g%]
  congr 1
  lia
 unfold atI
 rw [e]
 show (xs++[v])[xs.length]? = some v
 simp
noncomputable def ai5 (b:Expr):Prop:=∀ o i,Wz b false o i=operate [o,i] (Px o i)
noncomputable def IxR (X:Cx) (r:R2):Prop :=
 ∀ (value slice:Expr) (pins:List (Addr × Obj)) (s:Shared) (σ:St) (H:Hp) (x y:V) (v u:Value) (Q:VK),Inv X pins σ H s->RelV x v->RelV y u->r x y H Q ->
  Wz slice false v u=operate [v,u] (Px v u)->wpAny (model X.prog X.w) X.A (Qw value slice v u) (EP X pins σ Q) X.xe s
noncomputable def MtR (X:Cx) (id:String) (r:V->List V->Hp->VK->Prop):Prop :=
 ∀ (pins:List (Addr × Obj)) (s:Shared) (σ:St) (H:Hp) (x:V) (xs:List V) (v:Value) (us:List Value) (Q:VK),Inv X pins σ H s->RelV x v->Vals xs us->r x xs H Q ->
  wpAny (model X.prog X.w) X.A (call (.builtin id) (v::us)) (EP X pins σ Q) X.xe s
section
variable {a b:Expr} {ta tb:TE} {pos:Pos}
theorem IxR.or {r r':R2} (h:IxR X r) (h':IxR X r'):IxR X (fun x y H Q=>r x y H Q\/r' x y H Q):=by
 intro value slice pins s σ H x y v u Q I rx ry q hs
 rcases q with q | q
 ·exact h value slice pins s σ H x y v u Q I rx ry q hs
 ·exact h' value slice pins s σ H x y v u Q I rx ry q hs
theorem dw {r:R2} (hr:IxR X r) (ha:PE X a ta) (hb:PE X b tb) (hs:ai5 b):PE X (.Subscript a b pos) (tOp r ta tb):=by
 walk_at "e"
 exact Yi (binT ha hb I h fun v u s2 x y H2 I2 rx ry q=>hr a b pins s2 σ H2 x y v u Q I2 rx ry q (hs _ _))
noncomputable def rIxL (K:aW):R2:=fun x y H Q=>∃ p xs i v,x = .ref p/\y = .int i/\SqL K H p xs/\atI xs i=some v/\Q v H
noncomputable def rIxT (K:aW):R2:=fun x y H Q=>∃ p xs i v,x = .ref p/\y = .int i/\SqT K H p xs/\atI xs i=some v/\Q v H
theorem ai6:IxR X (rIxL X.K):=by
 intro value slice pins s σ H x y v u Q I rx ry h hs
 obtain ⟨p,xs,i,z,rfl,rfl,hq,he,q⟩:=h
 cases rx
 obtain ⟨t,rfl⟩:=ry
 obtain ⟨its,r,pl,hz⟩:=I.list hq
 obtain ⟨j,h1,h2,h3,h4,h5⟩:=aaH he
 obtain ⟨w,ew,rw'⟩:=r.get h2
 have hl:=r.length
 have hn:=Q8
 have fin:EP X pins σ Q w s:=⟨z,H,I,rw',q⟩
 by_cases h0:0<=i
 ·have hj:i.toNat=j:=by
   rw [Wy h0 h5] at h1
   exact bW h1
  exact item_listR pl.isList h0 tb_g% (by rw [hj];simpa using ew) fin hs
 ·have hj:(i+(its.toArray.size:Int)).toNat=j:=by
   rw [Wx tb_g% h4] at h1
   rw [cW,<- hl]
   exact bW h1
  exact afd (x:=w) pl.isList.typeIs Wl.lookup
   (wpAny_getItem_list_neg (Q:=fun r s'=>r=w/\EP X pins σ Q r s') pl.isList tb_g% (by rw [cW] <;> lia) tb_g% (by rw [hj];simpa using ew) ⟨rfl,fin⟩) hs
theorem amW:IxR X (rIxT X.K):=by
 intro value slice pins s σ H x y v u Q I rx ry h hs
 obtain ⟨p,xs,i,z,rfl,rfl,hq,he,q⟩:=h
 cases rx
 obtain ⟨t,rfl⟩:=ry
 obtain ⟨its,r,pl,hz⟩:=I.tuple hq
 obtain ⟨j,h1,h2,h3,h4,h5⟩:=aaH he
 obtain ⟨w,ew,rw'⟩:=r.get h2
 have hl:=r.length
 have hn:=Q8
 have fin:EP X pins σ Q w s:=⟨z,H,I,rw',q⟩
 exact afd (x:=w) pl.typeIs slot_tuple_getitem.lookup
  (getItem_tuple (j:=j) (Q:=fun r s'=>r=w/\EP X pins σ Q r s') pl tb_g% tb_g% (by rw [cW,<- hl];exact h1) (by simpa using ew) ⟨rfl,fin⟩) hs
theorem Y5 (its:List Value) (n j:Nat) (u:Value):pq (·.setIfInBounds j u) { cls:=.type "list",data:=.seq its.toArray n }={ cls:=.type "list",data:=.seq (its.set j u).toArray n }:=by
 simp [pq]
theorem Inv.lst {pins:List (Addr × Obj)} {σ:St} {H:Hp} {s:Shared} {p:Addr} {xs:List V} (I:Inv X pins σ H s) (h:H p=some (.lst xs)) :
  ∃ (its:List Value) (n:Nat),Vals xs its/\s.heap.get? p=some { cls:=.type "list",data:=.seq its.toArray n }/\xs.length<=sizeLine:=by
 obtain ⟨z,its,n,r,e⟩:=I.hok p _ h
 exact ⟨its,n,r,e,z⟩
theorem Inv.amX {s:Shared} {p:Addr} {xs ys:List V} {its':List Value} {n':Nat} {f:Obj->Obj} (I:Inv X pins σ H s) (h:H p=some (.lst xs))
  (ho:s.heap.get? p=some { cls:=.type "list",data:=.seq its.toArray n }) (hf:f { cls:=.type "list",data:=.seq its.toArray n }={ cls:=.type "list",data:=.seq its'.toArray n' }) (r:Vals ys its') (hz:ys.length<=sizeLine) (t:Nat) :
  Inv X pins σ (upd H p (.lst ys)) { s with heap:=s.heap.update p f,toks:=t }:=by
 have e:(s.heap.update p f).get? p=some { cls:=.type "list",data:=.seq its'.toArray n' }:=by
  rw [Jq f ho (by rw [hf] <;> rfl),hf]
 refine I.write (x:=p) (e:=p) (by rw [h];trivial) (.inl rfl) (fun b u hb q=>(yQ _ _ (aU hb)).trans q) ⟨_,e⟩ ?_
 exact ⟨hz,its',n',r,e⟩
noncomputable def aku:V->V->V->Hp->(Hp->Prop)->Prop:=fun o i v H Q=>∃ p xs k j,o = .ref p/\i = .int k/\H p=some (.lst xs)/\ixN xs.length k=some j/\Q (upd H p (.lst (xs.set j v)))
theorem set_list:PSet X aku:=by
 intro pins s σ H o i v ov iv u Q I ro ri rv h
 obtain ⟨p,xs,k,j,rfl,rfl,hp,hj,q⟩:=h
 cases ro
 obtain ⟨t,rfl⟩:=ri
 obtain ⟨its,n,r,ho,hz⟩:=I.lst hp
 obtain ⟨h1,h2,h3,h4⟩:=aaG hj
 have hl:=r.length
 have hn:=Q8
 have I':Inv X pins σ (upd H p (.lst (xs.set j v))) { s with heap:=s.heap.update p (pq (·.setIfInBounds j u)) } :=
  I.amX hp ho (Y5 its n j u) (r.set rv j) (by rw [jz];exact hz) s.toks
 by_cases h0:0<=k
 ·have hk:k.toNat=j:=by
   rw [Wy h0 h4] at h1
   exact bW h1
  exact PySem.W.ki_setAt ho h0 tb_g% (by rw [cW,<- hl];exact h4) (by rw [hk];exact ⟨_,I',q⟩)
 ·have hk:(k+(its.toArray.size:Int)).toNat=j:=by
   rw [Wx tb_g% h3] at h1
   rw [cW,<- hl]
   exact bW h1
  exact PySem.W.ki_setBack ho tb_g% (by rw [cW,<- hl];exact h3) tb_g% (by rw [hk];exact ⟨_,I',q⟩)
theorem Q9 (lo hi:Option Int) (n:Nat):(j4 lo hi none n).1=((HT.sIx n 0 lo:Nat):Int)/\(j4 lo hi none n).2.1=((HT.sIx n n hi:Nat):Int)/\(j4 lo hi none n).2.2=1:=by
 refine ⟨?_,?_,rfl⟩
 ·cases lo with
  | none=>simp [j4,HT.sIx]
  | some i =>
   simp only [j4,HT.sIx,Yl,show (1:Int)>0 by decide,if_true]
   by_cases h:i<0
   ·simp only [h,if_true] <;> lia
   ·simp only [h,if_false] <;> lia
 ·cases hi with
  | none=>simp [j4,HT.sIx]
  | some i =>
   simp only [j4,HT.sIx,Yl,show (1:Int)>0 by decide,if_true]
   by_cases h:i<0
   ·simp only [h,if_true] <;> lia
   ·simp only [h,if_false] <;> lia
theorem Lz (its:List Value) (lo hi:Option Int):Jd its.toArray lo hi none=((its.drop (HT.sIx its.length 0 lo)).take (HT.sIx its.length its.length hi-HT.sIx its.length 0 lo)).toArray:=by
 obtain ⟨h1,h2,h3⟩:=Q9 lo hi its.toArray.size
 unfold Jd
 rw [h1,h2,h3]
 simp only [sliceRange_one,pick_run,cW] <;> rfl
noncomputable def rSlL (K:aW):V->Option Int->Option Int->Hp->VK->Prop:=fun x lo hi H Q=>∃ a xs,x = .ref a/\SqL K H a xs/\∀ p,H p=none->Q (.ref p) (upd H p (.lst (acp xs lo hi)))
theorem ai7:SlR X (rSlL X.K):=by
 intro pins s σ H x v vl vu lo hi sl Q I rx hs pl pu h
 obtain ⟨a,xs,rfl,hx,q⟩:=h
 cases rx
 obtain ⟨its,r,ht,hz⟩:=I.list hx
 have hlen:=r.length
 refine ⟨"list",_,Wl.lookup,ht.isList.typeIs,?_⟩
 refine adT ht.isList hs pl pu .none (by simp) ?_ (by rw [cW] <;> lia)
 rw [Lz,<- hlen]
 refine ⟨.ref s.heap.objs.size,_,I.laid (t':=s.toks) (o:=.lst (acp xs lo hi)) (fun b ob q=>dX _ q) (bh _) ?_,rfl,q _ (I.hok.fresh (bh _))⟩
 exact ⟨gM (Ub xs lo hi) hz,_,0,(r.drop (HT.sIx xs.length 0 lo)).take (HT.sIx xs.length xs.length hi-HT.sIx xs.length 0 lo),eU _ rfl⟩
noncomputable def wW:V->Bool
 | .non=>true
 | .bl _=>true
 | .int _=>true
 | .str _=>true
 | _=>false
noncomputable def eqV:V->V->Bool
 | .non,.non=>true
 | .bl a,.bl b=>a == b
 | .bl a,.int b=>(if a then 1 else 0) == b
 | .int a,.bl b=>a == (if b then 1 else 0)
 | .int a,.int b=>a == b
 | .str a,.str b=>a == b
 | _,_=>false
theorem Y6 {s:Shared} (ry:RelV y u) (rx:RelV x v) (fy:wW y=true) (fx:wW x=true):JF A s u v (eqV y x):=by
 cases y with
 | non =>
  cases ry
  cases x with
  | non=>cases rx;exact Ym _
  | bl b=>cases rx;exact alM b
  | int b=>obtain ⟨t,rfl⟩:=rx;exact alP b t
  | str b=>obtain ⟨t,rfl⟩:=rx;exact alQ b t
  | _=>exact absurd (show false=true from fx) gO
 | bl a =>
  cases ry
  cases x with
  | non=>cases rx;exact alN a
  | bl b=>cases rx;exact alO a b
  | int b=>obtain ⟨t,rfl⟩:=rx;exact alR a b t
  | str b=>obtain ⟨t,rfl⟩:=rx;exact alS a b t
  | _=>exact absurd (show false=true from fx) gO
 | int a =>
  obtain ⟨t',rfl⟩:=ry
  cases x with
  | non=>cases rx;exact alT a t'
  | bl b=>cases rx;exact alU a t' b
  | int b=>obtain ⟨t,rfl⟩:=rx;exact alX a t' b t
  | str b=>obtain ⟨t,rfl⟩:=rx;exact afA a t' b t
  | _=>exact absurd (show false=true from fx) gO
 | str a =>
  obtain ⟨t',rfl⟩:=ry
  cases x with
  | non=>cases rx;exact alV a t'
  | bl b=>cases rx;exact alW a t' b
  | int b=>obtain ⟨t,rfl⟩:=rx;exact afB a t' b t
  | str b=>obtain ⟨t,rfl⟩:=rx;exact alY a t' b t
  | _=>exact absurd (show false=true from fx) gO
 | _=>exact absurd (show false=true from fy) gO
noncomputable def eqU (x:V) (u:Value):Bool:=match u with
 | .none=>eqV .non x
 | .bool b=>eqV (.bl b) x
 | .int i _=>eqV (.int i) x
 | .str z _=>eqV (.str z) x
 | _=>false
theorem agR (r:RelV y u) (f:wW y=true):eqU x u=eqV y x:=by
 cases y with
 | non=>cases r;rfl
 | bl b=>cases r;rfl
 | int i=>obtain ⟨t,rfl⟩:=r;rfl
 | str z=>obtain ⟨t,rfl⟩:=r;rfl
 | _=>exact absurd (show false=true from f) gO
theorem Ra :∀ {xs:List V} {us:List Value},Vals xs us->xs.all wW=true->us.any (eqU x)=xs.any fun y=>eqV y x
 | _,_,.nil,_=>rfl
 | y::xs,u::us,.cons r t,f=>by
  rw [adP,Jy] at f
  rw [zy,zy,agR r f.1,Ra t f.2]
theorem JW {s:Shared} (rx:RelV x v) (fx:wW x=true):∀ {xs:List V} {us:List Value},Vals xs us->xs.all wW=true->∀ u∈us,JF A s u v (eqU x u)
 | _,_,.nil,_=>fun u hu=>by cases hu
 | y::xs,u::us,.cons r t,f=>fun u' hu=>by
  rw [adP,Jy] at f
  rcases cP.mp hu with rfl | hu
  ·rw [agR r f.1];exact Y6 r rx f.1 fx
  ·exact JW rx fx t f.2 u' hu
noncomputable def inV (x:V) (xs:List V):Bool:=xs.any fun y=>eqV y x
noncomputable def rIn (K:aW) (neg:Bool):R2:=fun x y H Q=>∃ p xs,y = .ref p/\(SqL K H p xs\/SqT K H p xs)/\wW x=true/\xs.all wW=true/\Q (.bl (if neg then !inV x xs else inV x xs)) H
theorem Rb:OpR X (kO .NotIn) (rIn X.K true):=by
 walk_at "g"
 obtain ⟨p,xs,rfl,hq,fx,fs,q⟩:=h
 cases ry
 rcases hq with hq | hq
 ·obtain ⟨its,r,pl,hz⟩:=I.list hq
  refine SeqAt.notIn_listAt (eqU x) pl.isList (fun w hw=>JW rx fx r fs w (by simpa using hw)) ⟨.bl _,H,I,rfl,?_⟩
  rw [show its.toArray.any (eqU x)=its.any (eqU x) by simp,Ra r fs]
  exact q
 ·obtain ⟨its,r,pl,hz⟩:=I.tuple hq
  refine SeqAt.notIn_tupleAt (eqU x) pl (fun w hw=>JW rx fx r fs w (by simpa using hw)) ⟨.bl _,H,I,rfl,?_⟩
  rw [show its.toArray.any (eqU x)=its.any (eqU x) by simp,Ra r fs]
  exact q
theorem gP.or {f:Value} {r r':List V->Hp->VK->Prop} (h:gP X f r) (h':gP X f r'):gP X f (fun xs H Q=>r xs H Q\/r' xs H Q):=by
 intro pins s σ H xs us Q I rs q
 rcases q with q | q
 ·exact h pins s σ H xs us Q I rs q
 ·exact h' pins s σ H xs us Q I rs q
theorem Rf:gP X (.type "list") (fun xs H Q=>∃ p ys,xs=[.ref p]/\(SqL X.K H p ys\/SqT X.K H p ys)/\∀ l,H l=none->Q (.ref l) (upd H l (.lst ys))):=by
 walk_at "f"
 obtain ⟨p,ys,rfl,hq,q⟩:=h
 obtain ⟨u,rfl,rx⟩:=vals1 r
 cases rx
 have fin:∀ (its:List Value),Vals ys its->ys.length<=sizeLine->∀ (h':Heap) (c':Nat),(∀ b o',s.heap.get? b=some o'->h'.get? b=some o') ->
   h'.get? s.heap.objs.size=some { cls:=.type "list",dict:=none,data:=.seq its.toArray c',slots:=#[] }->EP X pins σ Q (.ref s.heap.objs.size) { s with heap:=h' }:=fun its r' hz h' c' kp e =>
  ⟨.ref s.heap.objs.size,_,I.laid (t':=s.toks) kp (bh _) (show dG X.prog X.w _ h' _ (.lst ys) from ⟨hz,its,c',r',e⟩),rfl,q _ (I.hok.fresh (bh _))⟩
 rcases hq with hq | hq
 ·obtain ⟨its,r',pl,hz⟩:=I.list hq
  have hlen:=r'.length
  obtain ⟨o,ho,hc,n,hd⟩:=pl.isList
  exact aee p (.inl rfl) ho hc hd (fun h' c' kp e=>fin its r' hz h' c' kp e) (by simp only [cW] <;> lia)
 ·obtain ⟨its,r',pl,hz⟩:=I.tuple hq
  have hlen:=r'.length
  obtain ⟨o,ho,hc,n,hd⟩:=pl
  exact aee p (.inr rfl) ho hc hd (fun h' c' kp e=>fin its r' hz h' c' kp e) (by simp only [cW] <;> lia)
noncomputable def tyV (K:aW) (T:String) (x:V) (H:Hp):Prop:=match x with
 | .str _=>T = "str"
 | .int _=>T = "int"
 | .ref p=>(T = "list" /\ ∃ xs,SqL K H p xs)\/(T = "tuple" /\ ∃ o,K.lookup p=some o/\o.cls = .type "tuple" /\ o.dict=none) \/
   (T = "dict" /\ ((∃ kvs,H p=some (.dK kvs))\/∃ kvs,H p=some (.dT kvs)))\/(T = "set" /\ ∃ S n,H p=some (.set S n))
 | _=>False
theorem amY {s:Shared} (I:Inv X pins σ H s) (r:RelV x v) (ty:tyV X.K T x H) :
  s.TypeIs v T/\∀ a,v = .ref a->∃ ob,s.heap.get? a=some ob/\ob.dict=none:=by
 cases x with
 | str z =>
  obtain ⟨t,rfl⟩:=r
  cases (show T = "str" from ty)
  exact ⟨WR s z t,fun _ e=>nomatch e⟩
 | int i =>
  obtain ⟨t,rfl⟩:=r
  cases (show T = "int" from ty)
  exact ⟨typeIs_int s i t,fun _ e=>nomatch e⟩
 | ref p =>
  cases r
  rcases ty with ⟨rfl,xs,hq⟩ | ⟨rfl,o,hk,hc,hd⟩ | ⟨rfl,hk⟩ | ⟨rfl,S,n,hk⟩
  ·obtain ⟨its,_,pl,_⟩:=I.list hq
   refine ⟨pl.isList.typeIs,fun a e=>?_⟩
   cases e
   obtain ⟨o,n,e,c,hd,_⟩:=pl
   exact ⟨o,e,hd⟩
  ·refine ⟨⟨o,I.kIn p o hk,hc⟩,fun a e=>?_⟩
   cases e
   exact ⟨o,I.kIn _ o hk,hd⟩
  ·have z:∃ o,s.heap.get? p=some o/\o.ExactDict:=by
    rcases hk with ⟨kvs,hk⟩ | ⟨kvs,hk⟩
    ·obtain ⟨_,_,_,_,o,_,_,e,ex,_⟩:=I.hok p _ hk
     exact ⟨o,e,ex⟩
    ·obtain ⟨_,_,_,_,o,_,_,e,ex,_⟩:=I.hok p _ hk
     exact ⟨o,e,ex⟩
   obtain ⟨o,e,ex⟩:=z
   refine ⟨⟨o,e,ex.1⟩,fun a e2=>?_⟩
   cases e2
   exact ⟨o,e,ex.2.1⟩
  ·obtain ⟨o,_,_,_,e,ex,_⟩:=I.hok p _ hk
   refine ⟨⟨o,e,ex.1⟩,fun a e2=>?_⟩
   cases e2
   exact ⟨o,e,ex.2.1⟩
 | _=>exact kY ty
noncomputable def tBM (K:aW) (T:String) (r:V->List V->Hp->VK->Prop) (to:TE) (t:TA):TE:=fun σ H Q=>to σ H fun x H1=>tyV K T x H1/\t σ H1 fun xs H2=>r x xs H2 Q
variable {o:Expr} {es:List Expr} {to:TE} {t:TA} {name:Str} {apos cpos:Pos} {id:String} {r:V->List V->Hp->VK->Prop}
theorem jG (pa:PlainAttrs T) (slot:Slot T name id) (hty:typeOf (.builtin id)=pure (.type "method_descriptor")) (hm:MtR X id r) (ho:PE X o to) (ha:PA X (e::es) t)
  (hbase:v9 o name X.env (eval o X.env)=eval o X.env:=by rfl)
  (hfew:((gh cpos (cO (e::es) X.env)).all (fun x=>!x.1) && (zH cpos (zF [] X.env)).all (fun x=>x.1.isSome)
   && decide ((e::es).length+([]:List ur).length+(if ([]:List ur).isEmpty then 0 else 1)<30))=true:=by rfl)
  (hline:(apos.endLine == cpos.line)=true:=by rfl) (hs:cO (e::es) X.env=(false,eval e X.env)::cO es X.env:=by rfl) (hplain:(gh cpos (cO es X.env)).any (·.1)=false:=by rfl) :
  PE X (.Call (.Attribute o name apos) (e::es) [] cpos) (tBM X.K T r to t):=by
 walk_at "e"
 refine adU hbase hfew hline rfl (thn (ho pins s σ H _ I h) fun v s1 ⟨x,H1,I1,r1,ty,q1⟩=>?_)
 obtain ⟨h1,h2⟩:=amY I1 r1 ty
 refine ⟨T,id,pa,slot,hty,h1,h2,?_⟩
 have hA:=ha cpos pins s1 σ H1 _ I1 q1
 rw [hs] at hA ⊢
 refine Yk (by show (false || (gh cpos (cO es X.env)).any (·.1))=false;rw [hplain] <;> rfl) (QB ?_)
 exact thn hA fun us s2 ⟨vs,H2,I2,r2,q2⟩=>hm pins s2 σ H2 x vs v us Q I2 r1 r2 q2
end
noncomputable def MtM (X:Cx) (id:String) (r:V->List V->Hp->VK->Prop):Prop :=
 ∀ (pins:List (Addr × Obj)) (s:Shared) (σ:St) (H:Hp) (x:V) (xs:List V) (v:Value) (us:List Value) (Q:VK),Inv X pins σ H s->RelV x v->Vals xs us->r x xs H Q ->
  wpAny (model X.prog X.w) X.A (call (.builtin id) (v::us)) (EP X pins σ Q) X.xe s
theorem Vals.one:∀ {x:V} {us:List Value},Vals [x] us->∃ u,us=[u]/\RelV x u
 | _,_,.cons r .nil=>⟨_,rfl,r⟩
theorem Vals.eraseIdx:∀ {xs:List V} {us:List Value} (i:Nat),Vals xs us->Vals (xs.eraseIdx i) (us.eraseIdx i)
 | _,_,_,.nil=>.nil
 | _,_,0,.cons _ t=>t
 | _,_,i+1,.cons r t=>.cons r (Vals.eraseIdx i t)
theorem Vals.reverse {xs:List V} {us:List Value} (h:Vals xs us):Vals xs.reverse us.reverse:=by
 induction h with
 | nil=>exact .nil
 | cons r t ih=>rw [adF,adF];exact Vals.append ih (.cons r .nil)
section
variable {s:Shared} {l b:Addr} {xs ys zs:List V}
theorem Inv.lset {its':List Value} {f:Array Value->Array Value} (I:Inv X pins σ H s) (hH:H l=some (.lst xs))
  (e:s.heap.get? l=some { cls:=.type "list",data:=.seq its.toArray n }) (hf:f its.toArray=its'.toArray) (hv:Vals ys its') (hz:ys.length<=sizeLine) :
  Inv X pins σ (upd H l (.lst ys)) { s with heap:=s.heap.update l (pq f),toks:=t' }:=by
 have q:=amK e f
 rw [hf] at q
 refine I.write (x:=l) (e:=l) (by rw [hH];exact trivial) (.inl rfl) (fun b' u hb hu=>(yQ s.heap (pq f) (aU hb)).trans hu) ⟨_,q⟩ ?_
 exact ⟨hz,its',_,hv,q⟩
theorem Inv.lnew (I:Inv X pins σ H s) (hv:Vals ys its) (hz:ys.length<=sizeLine) :
  Inv X pins σ (upd H s.heap.objs.size (.lst ys)) { s with heap:=s.heap.push { cls:=.type "list",data:=.seq its.toArray },toks:=t' } :=
 I.laid (fun _ _ q=>dX _ q) (bh _) ⟨hz,its,0,hv,eU _ rfl⟩
theorem Inv.fresh (I:Inv X pins σ H s):H s.heap.objs.size=none:=I.hok.fresh (bh _)
theorem Inv.GZ (I:Inv X pins σ H s) (hH:H l=some (.lst xs)):xs.length<=sizeLine/\∃ (its:List Value) (n:Nat),Vals xs its/\xs.length=its.length/\s.heap.get? l=some { cls:=.type "list",data:=.seq its.toArray n }:=by
 obtain ⟨z,its,n,r,e⟩:=I.hok l _ hH
 exact ⟨z,its,n,r,r.length,e⟩
theorem Uc (h:n<=sizeLine):XQ n=false:=by
 unfold XQ
 exact decide_eq_false tb_g%
end
noncomputable def ai8:V->List V->Hp->VK->Prop:=fun x vs H Q=>∃ l xs y,x = .ref l/\vs=[y]/\H l=some (.lst xs)/\xs.length<sizeLine/\Q .non (upd H l (.lst (xs++[y])))
theorem d8:MtM X "list.append" ai8:=by
 intro pins s σ H x vs v us Q I rx rv h
 obtain ⟨l,xs,y,rfl,rfl,hH,hz,q⟩:=h
 cases rx
 obtain ⟨u,rfl,ru⟩:=rv.one
 obtain ⟨z,its,n,r,hl,e⟩:=I.GZ hH
 refine call_meets F.slot_list_append ⟨_,e,rfl⟩ F.entry_list_append (F.args_list_append_2 _ _) (PySem.list_append l its.toArray n u (by rw [cW];lia)) ⟨e,?_⟩
 refine ⟨.non,_,I.lset (its':=its++[u]) hH e (by simp) (r.append (.cons ru .nil)) ?_,rfl,q⟩
 rw [cV,List.length_singleton]
 lia
noncomputable def ai9:V->List V->Hp->VK->Prop:=fun x vs H Q=>∃ l b xs zs,x = .ref l/\vs=[.ref b]/\H l=some (.lst xs)/\H b=some (.lst zs)/\xs.length+zs.length<=sizeLine/\Q .non (upd H l (.lst (xs++zs)))
theorem Fo:MtM X "list.extend" ai9:=by
 intro pins s σ H x vs v us Q I rx rv h
 obtain ⟨l,b,xs,zs,rfl,rfl,hH,hB,hz,q⟩:=h
 cases rx
 obtain ⟨u,rfl,ru⟩:=rv.one
 cases ru
 obtain ⟨z,its,n,r,hl,e⟩:=I.GZ hH
 obtain ⟨z2,its2,n2,r2,hl2,e2⟩:=I.GZ hB
 have hsz:its.toArray.size+its2.toArray.size<=sizeLine:=by rw [cW,cW];lia
 have hlong:¬ (!its.toArray.isEmpty && XQ (its.toArray.size+its2.toArray.size))=true:=by
  rw [Uc hsz,Xx]
  exact gO
 refine call_meets F.slot_list_extend ⟨_,e,rfl⟩ F.entry_list_extend (F.args_list_extend_2 _ _)
  (al6 l its.toArray n b its2.toArray n2 hlong (by rw [cW];lia) tb_g%) ⟨e,e2,?_⟩
 refine ⟨.non,_,I.lset (its':=its++its2) hH e (by simp) (r.append r2) ?_,rfl,q⟩
 rw [cV]
 lia
noncomputable def rCat:R2:=fun x y H Q=>∃ l b xs zs,x = .ref l/\y = .ref b/\H l=some (.lst xs)/\H b=some (.lst zs)/\xs.length+zs.length<=sizeLine/\∀ p,H p=none->Q (.ref p) (upd H p (.lst (xs++zs)))
theorem wX:OpR X (oX .Add) rCat:=by
 walk_at "g"
 obtain ⟨l,b,xs,zs,rfl,rfl,hH,hB,hz,q⟩:=h
 cases rx
 cases ry
 obtain ⟨z,its,n,r,hl,e⟩:=I.GZ hH
 obtain ⟨z2,its2,n2,r2,hl2,e2⟩:=I.GZ hB
 refine PySem.P.add_list e e2 ?_ (by rw [cW,cW];lia)
 have ea:its.toArray++its2.toArray=(its++its2).toArray:=by simp
 rw [ea]
 exact ⟨.ref _,_,I.lnew (t':=s.toks) (r.append r2) (by rw [cV];lia),rfl,q _ I.fresh⟩
section
variable {prog:aP} {s:Shared}
set_option maxRecDepth 100000 in
end
section
variable {κ:Type} [DecidableEq κ]
noncomputable def Ac (kvs:List (κ × V)) (k:κ):Option V:=(kvs.find? fun kv=>decide (kv.1=k)).map (·.2)
noncomputable def putK (kvs:List (κ × V)) (k:κ) (v:V):List (κ × V) :=
 if (kvs.any fun kv=>decide (kv.1=k))=true then kvs.map (fun kv=>if kv.1=k then (kv.1,v) else kv) else kvs++[(k,v)]
theorem Bk {p:κ × V} {r:List (κ × V)} {k:κ} (e:p.1=k):Ac (p::r) k=some p.2:=by simp [Ac,zx,e]
theorem Bm {p:κ × V} {r:List (κ × V)} {k:κ} (e:¬ p.1=k):Ac (p::r) k=Ac r k:=by simp [Ac,zx,e]
theorem Ud (k:κ):∀ kvs:List (κ × V),(kvs.any fun kv=>decide (kv.1=k))=(Ac kvs k).isSome
 | []=>rfl
 | p::r=>by
  rw [zy]
  by_cases e:p.1=k
  ·simp only [Bk e,decide_eq_true e,Bool.true_or,Option.isSome_some]
  ·rw [Bm e,decide_eq_false e,aeM];exact Ud k r
theorem Gv (kvs:List (κ × V)) (k:κ) (v:V):(putK kvs k v).length<=kvs.length+1:=by
 unfold putK
 split
 ·rw [aZ];lia
 ·rw [cV,dH,adM];lia
theorem vO.Fp {u:Option Value} (r:vO o u):o.isSome=u.isSome:=by
 cases o with
 | none=>cases u with
  | none=>rfl
  | some _=>exact (show False from r).elim
 | some _=>cases u with
  | none=>exact (show False from r).elim
  | some _=>rfl
theorem vO.getD {u:Option Value} {d:V} {d':Value} (r:vO o u) (rd:RelV d d'):RelV (o.getD d) (u.getD d'):=by
 cases o with
 | none=>cases u with
  | none=>exact rd
  | some _=>exact (show False from r).elim
 | some _=>cases u with
  | none=>exact (show False from r).elim
  | some _=>exact r
theorem KV.val {kvs:List (κ × V)} {vs:List (κ × Value)} (r:KV kvs vs) (k:κ):vO (Ac kvs k) (zN vs k):=by
 unfold KV at r
 induction r with
 | nil=>exact True.intro
 | @cons p q ps qs h t ih =>
  obtain ⟨h1,h2⟩:=h
  by_cases e:p.1=k
  ·have e':q.1=k:=h1.symm.trans e
   have b:zN (q::qs) k=some q.2:=by simp [zN,zx,e']
   rw [Bk e,b];exact h2
  ·have e':¬ q.1=k:=fun z=>e (h1.trans z)
   have b:zN (q::qs) k=zN qs k:=by simp [zN,zx,e']
   rw [Bm e,b];exact ih
theorem KV.any {kvs:List (κ × V)} {vs:List (κ × Value)} (r:KV kvs vs) (k:κ):(kvs.any fun kv=>decide (kv.1=k))=vs.any fun kv=>decide (kv.1=k):=by
 unfold KV at r
 induction r with
 | nil=>rfl
 | cons h t ih=>rw [zy,zy,ih,h.1]
theorem KV.repl {kvs:List (κ × V)} {vs:List (κ × Value)} (r:KV kvs vs) (k:κ) (ry:RelV y u) :
  KV (kvs.map fun kv=>if kv.1=k then (kv.1,y) else kv) (vs.map fun kv=>if kv.1=k then (kv.1,u) else kv):=by
 unfold KV at r ⊢
 induction r with
 | nil=>exact .nil
 | @cons p q ps qs h t ih =>
  rw [dW,dW]
  refine .cons ?_ ih
  obtain ⟨h1,h2⟩:=h
  by_cases e:p.1=k
  ·rw [if_pos e,if_pos (h1.symm.trans e)];exact ⟨h1,ry⟩
  ·rw [if_neg e,if_neg (fun z=>e (h1.trans z))];exact ⟨h1,h2⟩
theorem KV.put {kvs:List (κ × V)} {vs:List (κ × Value)} (r:KV kvs vs) (k:κ) (ry:RelV y u):KV (putK kvs k y) (stored vs k u):=by
 unfold putK stored
 rw [r.any k]
 by_cases e:(vs.any fun kv=>decide (kv.1=k))=true
 ·rw [if_pos e,if_pos e];exact r.repl k ry
 ·rw [if_neg e,if_neg e];exact afJ r ⟨rfl,ry⟩
theorem KV.keys {kvs:List (κ × V)} {vs:List (κ × Value)} (r:KV kvs vs):kvs.map (·.1)=vs.map (·.1):=by
 unfold KV at r
 induction r with
 | nil=>rfl
 | cons h t ih=>rw [dW,dW,ih,h.1]
theorem KV.length {kvs:List (κ × V)} {vs:List (κ × Value)} (r:KV kvs vs):kvs.length=vs.length:=Yo r
end
theorem Ue (r:RelV (kV k) u):(dj P w).is k u=true:=by
 cases k with
 | inl i=>obtain ⟨t,e⟩:=(show ∃ t,u=Value.int i t from r);subst e;exact TQ P w i t
 | inr x=>obtain ⟨t,e⟩:=(show ∃ t,u=Value.str x t from r);subst e;exact TV P w x t
theorem M7 :∀ {ks:List Key} {us:List Value},Vals (ks.map kV) us->ItemsAre (dj P w) ks us
 | [],_,r=>by rw [Dt] at r;cases r;exact .nil
 | k::ks,_,r=>by
  rw [dW] at r
  cases r with
  | cons h t=>exact .cons (Ue h) (M7 t)
noncomputable abbrev KT (H:Hp):List (List Key × V)->List (List Key × Addr × Value)->Prop:=Paired fun p q=>p.1=q.1/\H q.2.1=some (.tup (p.1.map kV))/\RelV p.2 q.2.2
theorem KT.val (r:KT H kvs xs) (k:List Key):vO (Ac kvs k) ((atKey xs k).map (·.2)):=by
 induction r with
 | nil=>exact True.intro
 | @cons p q ps qs h t ih =>
  obtain ⟨h1,_,h2⟩:=h
  by_cases e:p.1=k
  ·have e':q.1=k:=h1.symm.trans e
   have b:atKey (q::qs) k=some q.2:=by simp [atKey,zx,e']
   rw [Bk e,b];exact h2
  ·have e':¬ q.1=k:=fun z=>e (h1.trans z)
   have b:atKey (q::qs) k=atKey qs k:=by simp [atKey,zx,e']
   rw [Bm e,b];exact ih
theorem KT.repl (r:KT H kvs xs) (k:List Key) (ry:RelV y u) :
  KT H (kvs.map fun kv=>if kv.1=k then (kv.1,y) else kv) (xs.map (putAt k u)):=by
 induction r with
 | nil=>exact .nil
 | @cons p q ps qs h t ih =>
  rw [dW,dW]
  refine .cons ?_ ih
  obtain ⟨h1,h2,h3⟩:=h
  unfold putAt
  by_cases e:p.1=k
  ·rw [if_pos e,if_pos (h1.symm.trans e)];exact ⟨h1,h2,ry⟩
  ·rw [if_neg e,if_neg (fun z=>e (h1.trans z))];exact ⟨h1,h2,h3⟩
theorem KT.put (r:KT H kvs xs) (k:List Key) {b:Addr} (hb:H b=some (.tup (k.map kV))) (ry:RelV y u) :
  KT H (putK kvs k y) (storedH xs k b u):=by
 have e:(kvs.any fun kv=>decide (kv.1=k))=(atKey xs k).isSome:=by
  rw [Ud,(r.val k).Fp,afu]
 unfold putK storedH
 rw [e]
 by_cases q:(atKey xs k).isSome=true
 ·rw [if_pos q,if_pos q];exact r.repl k ry
 ·rw [if_neg q,if_neg q];exact afJ r ⟨rfl,hb,ry⟩
theorem KT.keeps (r:KT H kvs xs) (ht:∀ b ys,H b=some (.tup ys)->H' b=some (.tup ys)):KT H' kvs xs :=
 Paired.mapP r fun _ _ z=>⟨z.1,ht _ _ z.2.1,z.2.2⟩
section
variable {h:Heap}
theorem akv {u:HO} (ok:HOk P w H h) (e:Rd H a u):dG P w H h a u:=e.ok ok
theorem wY {kvs:List (Key × V)} (ok:HOk P w H h) (e:Rd H a (.dK kvs)):kvs.length<=sizeLine/\(a == rJ)=false/\∃ vs,KV kvs vs/\h.DictOf (dj P w) a vs :=
 show dG P w H h a (.dK kvs) from akv ok e
theorem akx {kvs:List (Key × V)} (ok:HOk P w H h) (e:H a=some (.dK kvs)):kvs.length<=sizeLine/\(a == rJ)=false/\∃ vs,KV kvs vs/\h.DictOf (dj P w) a vs:=wY ok (.inl e)
theorem JX {ks:List Key} (ok:HOk P w H h) (e:H a=some (.tup (ks.map kV))):(Ea (dj P w)).is h ks a:=by
 obtain ⟨_,its,r,o,h1,h2,n,h3⟩:=(show dG P w H h a (.tup (ks.map kV)) from ok a _ e)
 exact ⟨o,its.toArray,n,h1,h2,h3,by simpa using M7 r⟩
theorem M8 (ok:HOk P w H h) (e:Rd H a (.dT kvs)):kvs.length<=sizeLine/\(a == rJ)=false /\
  ∃ xs,KT H kvs xs/\h.DictOfH (Ea (dj P w)) a xs:=by
 obtain ⟨z,y,xs,r,o,es,ep,h1,h2,h3,h4,h5⟩:=(show dG P w H h a (.dT kvs) from akv ok e)
 refine ⟨z,y,xs,r,o,es,ep,h1,h2,h3,h4,fun x hx=>?_,h5⟩
 have all:∀ {l:List (List Key × V)} {m:List (List Key × Addr × Value)},KT H l m->∀ x∈m,(Ea (dj P w)).is h x.1 x.2.1:=by
  intro l m q
  induction q with
  | nil=>intro x hx;exact nomatch hx
  | @cons p q ps qs hq t ih =>
   intro x hx
   rcases cP.mp hx with e | hx
   ·subst e
    exact JX ok (by rw [<- hq.1];exact hq.2.1)
   ·exact ih x hx
 exact all r x hx
theorem dt_of (ok:HOk P w H h) (e:H a=some (.dT kvs)):kvs.length<=sizeLine/\(a == rJ)=false /\
  ∃ xs,KT H kvs xs/\h.DictOfH (Ea (dj P w)) a xs:=M8 ok (.inl e)
end
noncomputable def Rg (H:Hp) (a:Addr) (y:V) (r:Option V):Prop :=
 (∃ kvs k,Rd H a (.dK kvs)/\y=kV k/\r=Ac kvs k)\/∃ kvs k b,Rd H a (.dT kvs)/\y = .ref b/\H b=some (.tup (k.map kV))/\r=Ac kvs k
noncomputable def DPut (H:Hp) (a:Addr) (y v:V) (H':Hp):Prop :=
 (∃ kvs k,H a=some (.dK kvs)/\y=kV k/\kvs.length<sizeLine/\H'=upd H a (.dK (putK kvs k v))) \/
 ∃ kvs k b,H a=some (.dT kvs)/\y = .ref b/\H b=some (.tup (k.map kV))/\kvs.length<sizeLine/\H'=upd H a (.dT (putK kvs k v))
section
variable {s:Shared} {v:V} {r:Value}
theorem Inv.big (I:Inv X pins σ H s):rJ<s.heap.objs.size:=by
 have h:dI<s.heap.objs.size:=(I.mod.glob.keeps I.bk).lt
 exact uz (by decide) h
theorem acq (hu:A.units+1<cLine) (I:Inv X pins σ H s) (g:Rg H a y (some v)) (ry:RelV y u) (h:∀ w' s',Inv X pins σ H s'->RelV v w'->Q w' s') :
  wpAny (model X.prog X.w) A (Px (.ref a) u) Q E s:=by
 rcases g with ⟨kvs,k,e,ey,l⟩ | ⟨kvs,k,b,e,ey,eb,l⟩
 ·subst ey
  obtain ⟨z,hd,vs,rel,dd⟩:=wY I.hok e
  obtain ⟨w',hw,rw'⟩:=vO.some_of (v:=v) (o:=zN vs k) (by rw [l];exact rel.val k)
  exact wpAny_getItem_of (Ue ry) dd.mapOf hw (h w' _ (I.tok _) rw')
 ·subst ey
  cases (show u=Value.ref b from ry)
  obtain ⟨z,hd,xs,rel,dd⟩:=M8 I.hok e
  obtain ⟨w',hw,rw'⟩:=vO.some_of (v:=v) (o:=(atKey xs k).map (·.2)) (by rw [l];exact rel.val k)
  obtain ⟨p,hp,hp2⟩:=JD.mp hw
  refine wpAny_getItem_heap (O5 hu) (JX I.hok eb) dd hp ?_
  rw [hp2]
  exact h w' _ (I.tok _) rw'
theorem aja (hu:A.units+1<cLine) (I:Inv X pins σ H s) (g:Rg H a y o) (ry:RelV y u) (h:∀ s',Inv X pins σ H s'->Q (.bool (!o.isSome)) s') :
  wpAny (model X.prog X.w) A (kO .NotIn u (.ref a)) Q E s:=by
 rcases g with ⟨kvs,k,e,ey,l⟩ | ⟨kvs,k,b,e,ey,eb,l⟩
 ·subst ey
  obtain ⟨z,hd,vs,rel,dd⟩:=wY I.hok e
  refine wpAny_notIn_of (Ue ry) hd dd.mapOf ?_
  rw [<- (rel.val k).Fp,<- l]
  exact h _ (I.tok _)
 ·subst ey
  cases (show u=Value.ref b from ry)
  obtain ⟨z,hd,xs,rel,dd⟩:=M8 I.hok e
  refine wpAny_notIn_heap (O5 hu) (JX I.hok eb) hd dd ?_
  have q:=(rel.val k).Fp
  rw [afu] at q
  rw [<- q,<- l]
  exact h _ (I.tok _)
theorem aaI {ob:HO} (I:Inv X pins σ H s) (mu:Mut (H a)) (hs:wG a s.heap h') (he:∃ q,h'.get? a=some q) (new:dG X.prog X.w (upd H a ob) h' a ob) :
  Inv X pins σ (upd H a ob) { s with heap:=h',toks:=t' } :=
 I.write (x:=a) (e:=a) mu (.inl rfl) (fun b q hb z=>(hs.2 b hb).trans z) he new
theorem agS {kvs:List (Key × V)} {vs:List (Key × Value)} (z:kvs.length<=sizeLine) (hd:(a == rJ)=false) (rel:KV kvs vs) (dd:h'.DictOf (dj P w) a vs) :
  dG P w H' h' a (.dK kvs):=⟨z,hd,vs,rel,dd⟩
theorem acr {Q:Unit->Shared->Prop} (hu:A.units+1<cLine) (I:Inv X pins σ H s) (g:DPut H a y v H') (ry:RelV y u) (rv:RelV v r) (h:∀ s',Inv X pins σ H' s'->Q () s') :
  wpAny (model X.prog X.w) A (setItem (.ref a) u r) Q E s:=by
 rcases g with ⟨kvs,k,e,ey,l,eH⟩ | ⟨kvs,k,b,e,ey,eb,l,eH⟩
 ·subst ey eH
  obtain ⟨z,hd,vs,rel,dd⟩:=akx I.hok e
  have hz:vs.length<=sizeLine:=by rw [<- rel.length];exact z
  have hl:(putK kvs k v).length<=sizeLine:=by have:=Gv kvs k v;lia
  refine wpAny_setItem_pairs (hsz:=hz) (Ue ry) dd fun h' dd' hs=>h _ ?_
  have he:∃ q,h'.get? a=some q:=let ⟨q,_,_,hq,_⟩:=dd';⟨q,hq⟩
  exact aaI I (by rw [e];exact True.intro) hs he (agS hl hd (rel.put k rv) dd')
 ·subst ey eH
  cases (show u=Value.ref b from ry)
  obtain ⟨z,hd,xs,rel,dd⟩:=dt_of I.hok e
  have hz:xs.length<=sizeLine:=by rw [<- Yo rel];exact z
  have hl:(putK kvs k v).length<=sizeLine:=by have:=Gv kvs k v;lia
  refine wpAny_setItem_heap (hsz:=hz) (O5 hu) (JX I.hok eb) dd fun h' dd' hs=>h _ ?_
  obtain ⟨q,es,ep,hq,h2,h3,h4,_,h5⟩:=dd'
  refine aaI I (by rw [e];exact True.intro) hs ⟨q,hq⟩ ⟨hl,hd,_,(rel.put k eb rv).keeps fun c ys ec=>?_,q,es,ep,hq,h2,h3,h4,h5⟩
  rw [aA (iw ec e (fun z=>nomatch z))]
  exact ec
end
section
variable {s:Shared} {kvs:List (Key × V)}
theorem d_len (I:Inv X pins σ H s) (e:Rd H a (.dK kvs)) (h:∀ t s',Inv X pins σ H s'->Q (.int kvs.length t) s'):wpAny (model X.prog X.w) A (call (.builtin "len") [.ref a]) Q E s:=by
 obtain ⟨z,hd,vs,rel,dd⟩:=wY I.hok e
 refine call_len_dict hd dd (by rw [<- rel.length];rw [Pj] at z;lia) ?_
 rw [<- rel.length]
 exact h _ _ (I.tok _)
end
theorem Ug {s:Shared} (I:Inv X pins σ H s) (g:Rg H a y o):s.TypeIs (.ref a) "dict" := by
 rcases g with ⟨kvs,k,e,_,_⟩ | ⟨kvs,k,b,e,_,_,_⟩
 ·obtain ⟨_,_,vs,_,dd⟩:=wY I.hok e
  exact dd.typeIs
 ·obtain ⟨_,_,xs,_,dd⟩:=M8 I.hok e
  exact dd.typeIs
section
variable {o i value:Expr} {pos pos' tpos:Pos} {td ty tv:TE}
end
theorem agT (h:Heap) (hb:rJ<h.objs.size):dG P w H (h.push { cls:=.type "dict",data:=.dict #[] }) h.objs.size (.dK []) :=
 ⟨dF _,beq_eq_false_iff_ne.mpr (aU (cM hb)),[],.nil,amL h⟩
noncomputable def amZ:TE:=fun _ H Q=>∀ p,H p=none->Q (.ref p) (upd H p (.dK []))
section
variable {pos:Pos}
theorem Uh:PE X (.Dict [] [] pos) amZ:=fun pins s σ H Q I h =>
 wpAny_Dict_empty ⟨.ref s.heap.objs.size,_,I.laid (a:=s.heap.objs.size) (o:=.dK []) (t':=s.toks) (fun _ _ q=>dX _ q) (bh _) (agT s.heap I.big),rfl,h _ (I.hok.fresh (bh _))⟩
end
structure M1 (X:Cx) (o:Expr) (m:Str) (apos:Pos) (e:Expr) (cpos:Pos):Prop where
 base:v9 o m X.env (eval o X.env)=eval o X.env
 few:((gh cpos (cO [e] X.env)).all (fun x=>!x.1) && (zH cpos (zF [] X.env)).all (fun x=>x.1.isSome)
  && decide (([e]:List Expr).length+([]:List ur).length+(if ([]:List ur).isEmpty then 0 else 1)<30))=true
 line:(apos.endLine == cpos.line)=true
 trees:gh cpos (cO [e] X.env)=[(false,eval e X.env)]
structure M2 (X:Cx) (o:Expr) (m:Str) (apos:Pos) (e f:Expr) (cpos:Pos):Prop where
 base:v9 o m X.env (eval o X.env)=eval o X.env
 few:((gh cpos (cO [e,f] X.env)).all (fun x=>!x.1) && (zH cpos (zF [] X.env)).all (fun x=>x.1.isSome)
  && decide (([e,f]:List Expr).length+([]:List ur).length+(if ([]:List ur).isEmpty then 0 else 1)<30))=true
 line:(apos.endLine == cpos.line)=true
 trees:gh cpos (cO [e,f] X.env)=[(false,eval e X.env),(false,eval f X.env)]
noncomputable def IsD (H:Hp) (a:Addr):Prop:=(∃ kvs,Rd H a (.dK kvs))\/∃ kvs,Rd H a (.dT kvs)
theorem Y7 {s:Shared} (I:Inv X pins σ H s) (d:IsD H a) :
  s.TypeIs (.ref a) "dict" /\ (∀ b,Value.ref a = .ref b->∃ ob,s.heap.get? b=some ob/\ob.dict=none)/\(a == rJ)=false:=by
 rcases d with ⟨kvs,e⟩ | ⟨kvs,e⟩
 ·obtain ⟨_,hd,vs,_,dd⟩:=wY I.hok e
  refine ⟨dd.typeIs,fun b q=>?_,hd⟩
  cases q
  obtain ⟨ob,_,_,h1,h2,_⟩:=dd
  exact ⟨ob,h1,h2.2.1⟩
 ·obtain ⟨_,hd,xs,_,dd⟩:=M8 I.hok e
  refine ⟨dd.typeIs,fun b q=>?_,hd⟩
  cases q
  obtain ⟨ob,_,_,h1,h2,_⟩:=dd
  exact ⟨ob,h1,h2.2.1⟩
section
variable {s:Shared} {d:V} {r:Value}
theorem am0 (hu:A.units+1<cLine) (I:Inv X pins σ H s) (g:Rg H a y o) (ry:RelV y u) (rd:RelV d r) (h:∀ w' s',Inv X pins σ H s'->RelV (o.getD d) w'->Q w' s') :
  wpAny (model X.prog X.w) A (call (.builtin "dict.get") [.ref a,u,r]) Q E s:=by
 rcases g with ⟨kvs,k,e,ey,l⟩ | ⟨kvs,k,b,e,ey,eb,l⟩
 ·subst ey
  obtain ⟨z,hd,vs,rel,dd⟩:=wY I.hok e
  refine aei Xz dd.typeIs aeR (aeO _ _ _) (meets_dict_get_default (dj X.prog X.w) a (Ue ry) hd r) ⟨_,dd.mapOf,h _ _ (I.tok _) ?_⟩
  rw [l]
  exact (rel.val k).getD rd
 ·subst ey
  cases (show u=Value.ref b from ry)
  obtain ⟨z,hd,xs,rel,dd⟩:=M8 I.hok e
  refine aei Xz dd.typeIs aeR (aeO _ _ _) (meetsH_dict_get_default (Ea (dj X.prog X.w)) a b hd r) ⟨O5 hu,k,xs,JX I.hok eb,dd,h _ _ (I.tok _) ?_⟩
  rw [l]
  exact (rel.val k).getD rd
end
noncomputable def am1 (td ty tx:TE):TE:=fun σ H Q=>td σ H fun x H1=>∃ a,x = .ref a/\IsD H1 a/\ty σ H1 fun y H2=>tx σ H2 fun z H3=>∃ o,Rg H3 a y o/\Q (o.getD z) H3
section
variable {o f:Expr} {apos cpos:Pos} {td ty tx:TE}
theorem Ui (hu:X.A.units+1<cLine) (ho:PE X o td) (he:PE X e ty) (hf:PE X f tx) (m:M2 X o "get" apos e f cpos):PE X (.Call (.Attribute o "get" apos) [e,f] [] cpos) (am1 td ty tx):=by
 walk_at "e"
 refine Wm m.base m.few m.line Xy Xz PySem.F.type_dict_get (thn (ho pins s σ H _ I h) fun u s1 ⟨x,H1,I1,rx,a,ex,d,q1⟩=>?_)
 subst ex
 obtain rfl:u=Value.ref a:=rx
 obtain ⟨t1,t2,_⟩:=Y7 I1 d
 refine ⟨t1,t2,?_⟩
 rw [m.trees]
 refine Yk rfl (QB (zX (thn (he pins s1 σ H1 _ I1 q1) fun iv s2 ⟨y,H2,I2,ry,q2⟩ =>
  zX (thn (hf pins s2 σ H2 _ I2 q2) fun fv s3 ⟨z,H3,I3,rz,ov,g,q3⟩=>Er ?_))))
 exact am0 hu I3 g ry rz fun w' s4 I4 rw'=>⟨_,H3,I4,rw',q3⟩
end
section
variable {s:Shared} {kvs:List (Key × V)}
theorem agU (I:Inv X pins σ H s) (e:Rd H a (.dK kvs)) (h:∀ p s',H p=none->Inv X pins σ (upd H p (.dK kvs)) s'->Q (.ref p) s'):wpAny (model X.prog X.w) A (call (.type "dict") [.ref a]) Q E s:=by
 obtain ⟨z,hd,vs,rel,dd⟩:=wY I.hok e
 refine kt_call_dict hd dd (by rw [<- rel.length];exact z) fun h' dd' hs=>?_
 refine h _ _ (I.hok.fresh (bh _)) (I.laid (a:=s.heap.objs.size) (o:=.dK kvs) (t':=s.toks) (fun b q hq=>?_) (bh _) (agS z (beq_eq_false_iff_ne.mpr (aU (cM I.big))) rel dd'))
 exact (hs.2 b (cM (bR hq))).trans (dX _ hq)
end
section
variable {s:Shared}
end
end L2
namespace Att
open PySem PySem.W PySem.Calls PyProof.Rows
theorem Hf {P:Ed} {h:Heap}:∀ (ns:List Int) (vs:List Value),WellAll P h vs (ns.map WData.int)->IntsAre vs ns:=by
 intro ns
 induction ns with
 | nil =>
  intro vs w
  rw [Dt] at w
  cases w
  exact .nil
 | cons n ns ih =>
  intro vs w
  rw [dW] at w
  cases w with
  | cons a b =>
   cases a
   exact .cons _ _ (ih _ b)
theorem acs {l:OpenLaw} {n:Nat} (hn:l.most=some n) {P:Ed} {h:Heap} {args:List WData} {vals:List Value}
  (hpre:l.row.toRowW.claim.pre args=true) (hwl:WellAll P h vals args) :
  ∃ a vs ns,vals=[Value.ref a]/\args=[WData.list (ns.map WData.int)]/\h.get? a=some { cls:=.type "list",data:=.seq vs.toArray }/\IntsAre vs ns/\ns.length<=n:=by
 have hsh:WShape.hasAll [] args [.list .int]=true:=(pre_splitW hpre).1
 have hc:l.pre.holds [] { args:=args }=true:=(pre_splitW hpre).2
 obtain ⟨d,r,rfl,h1,h2⟩:=hasAllW_cons hsh
 obtain rfl:=hasAllW_nil h2
 obtain ⟨xs,rfl,h3⟩:=hasW_list h1
 obtain ⟨ns,rfl⟩:=items_int h3
 have hlen:ns.length<=n:=by
  unfold OpenLaw.pre at hc
  have h4:(WTm.not (.lt (.lit (.int (n:Int))) (.len (.arg 0)))).holds [] { args:=[.list (ns.map .int)] }=true:=by
   have h4:=(holds_andW hc).1
   rw [hn] at h4
   exact h4
  have h5:=condW_of h4 (w_not (w_lt w_lit (w_len_list (w_arg rfl))))
  rw [aZ] at h5
  refine aez fun q=>?_
  have q':(n:Int)<((ns.length:Nat):Int):=by lia
  first
   | (rw [decide_eq_true q'] at h5;exact absurd h5 (by decide))
   | (simp at h5;lia)
 cases hwl with
 | cons w1 w2 =>
  cases w2
  cases w1 with
  | list ho hall=>exact ⟨_,_,ns,rfl,rfl,ho,Hf ns _ hall,hlen⟩
theorem acu (l:OpenLaw) (args:List WData):l.row.toRowW.claim.post args (.bool true) args=true :=
 postW_of (r:=l.row.toRowW) (X:=(true == true))
  (show WShape.has [] (.bool true) .bool=true by first | rfl | decide | simp [WShape.has,WShape.arms,WShape.armsAll])
  (show (WTm.eq .res (.lit (.bool true))).value [] { args:=args,res:=some (.bool true),after:=args }=some (.bool (true == true)) from w_eq_bool (w_res rfl) w_lit) rfl
theorem Uj {l:OpenLaw} {n:Nat} {q:aP} {loose:List Str} {XP:(Str->Option Value)->Heap->Prop} {YP:World->Heap->Prop} {d:PB}
  (hn:l.most=some n) (hdf:d.params.defaults=[])
  (call:∀ (w:World) (s₀ s₁:Shared) (mg mb:Str->Option Value) (fa:Addr) (o:Obj) (pm cd doc:Value) (a:Addr) (vs:List Value) (ns:List Int),
   Ground q loose [] XP w s₀ mg mb s₁.heap->YP w s₁.heap ->
   s₁.heap.get? fa=some o->o.data = .func (docDef d.name d.params d.body d.scope pm cd doc)->s₁.heap.CodeRec cd d.name->mg d.name=some (.ref fa) ->
   s₁.heap.get? a=some { cls:=.type "list",data:=.seq vs.toArray }->IntsAre vs ns->ns.length<=n->s₁.gens = #[] ->
   f9 (model l.prog w) zO (.call (.ref fa) ⟨[.ref a],[]⟩) (fun r s'=>r = .ok (.ret (.bool true))/\OldK s₁.heap s'.heap/\s'.os=s₁.os/\rP s'.gens) s₁) :
  WalkO q loose XP YP l.row.toRowW d [] (fun f vs=>Pk f vs):=by
 intro w s₀ s₁ mg mb G Y fa o pm cd doc dV kV ho hd hcd hD hmg hg args vals as hpre hlay hrd hwl hlo
 obtain rfl:dV = .none:=Dflts.none hD hdf
 obtain rfl:kV = .none:=Dflts.noKw hD
 obtain ⟨a,vs,ns,rfl,rfl,hobj,hints,hlen⟩:=acs hn hpre hwl
 refine enter_call (uo (call w s₀ s₁ mg mb fa o pm cd doc a vs ns G Y ho (fd_plain hd) hcd hmg hobj hints hlen hg) fun r s' hq=>?_)
 obtain ⟨rfl,h2,h3,h4⟩:=hq
 exact ⟨.inl ⟨.bool true,.bool true,[],rfl,fun _=>rfl,.bool true,acu l _,fun _=>⟨List.Pairwise.nil,fun _ hm=>(nomatch hm)⟩⟩,h2,h3,h4⟩
section
variable {prog:aP} {w:World} {A:bH} {E:Value->Shared->Prop} {s:Shared} {K:Frag}
noncomputable def ledger (h:Heap) (L d:Addr):List (Addr × Obj):=(oU h.objs.size).filterMap fun a=>if a=L\/a=d then none else (h.get? a).map fun o=>(a,o)
end
end Att
namespace L2
open PySem PySem.Spec PyProof.Rows
theorem oN:∀ {vs:List Value} {ns:List Int},IntsAre vs ns->Vals (ns.map V.int) vs
 | _,_,.nil=>.nil
 | _,_,.cons n t h=>.cons ⟨t,rfl⟩ (oN h)
noncomputable def Only (H:Hp):Prop:=∀ b,H b=none\/∃ o xs,H b=some (.frz o (.lst xs))
theorem agV {P:aP} {w:World} {K:aW} {mg mb:Str->Option Value} {CX:CXT} {k:Nat} {fa a:Addr} {fd:FuncData} {x:Str} {sp:Sp} {s₁:Shared} {vs:List Value} {ns:List Int}
  (KX:K.In s₁.heap) (hns:s₁.heap.Ns dI mg) (hb:s₁.heap.Ns WL mb) (hbb:∀ x:Str,x ≠ "__name__" -> mb x=zE x) (hlim:s₁.heap.NoLimit) (hg:s₁.gens = #[])
  (ha:s₁.heap.get? a=some { cls:=.type "list",data:=.seq vs.toArray }) (hi:IntsAre vs ns) (hl:ns.length<=sizeLine) (hr:jF k zO)
  (F:∀ base:Heap,K.In base->base.Ns dI mg->cB P w K mg base CX k fa fd [x] sp) (hbind:∀ (s:Shared) (u:Value),Ec s fd ⟨[u],[]⟩ [(x,u)])
  (hsp:∀ H:Hp,Only H->SqL K H a (ns.map V.int)->sp [.ref a] H (fun v _=>v = .bl true) fun _ _ _=>False)
  (hCX:∀ H e s',CX [] H s₁ (fun _ _ _=>False) e s'->False) :
  f9 (model P w) zO (.call (.ref fa) ⟨[.ref a],[]⟩) (fun r s'=>r = .ok (.ret (.bool true))/\OldK s₁.heap s'.heap/\s'.os=s₁.os/\rP s'.gens) s₁:=by
 have rv:=oN hi
 have lenV:=hi.length
 have core:∀ H:Hp,Only H->SqL K H a (ns.map V.int)->HOk P w H s₁.heap->(∀ b,H b≠none->b=a)->(H a≠none->K.lookup a=none) ->
   f9 (model P w) zO (.call (.ref fa) ⟨[.ref a],[]⟩) (fun r s'=>r = .ok (.ret (.bool true))/\OldK s₁.heap s'.heap/\s'.os=s₁.os/\rP s'.gens) s₁:=by
  intro H hO hS hok hA hK
  have aaJ:∀ {b:Addr} {o:Obj},s₁.heap.get? b=some o->H b=none->(QX s₁.heap H).get? b=some o:=fun e n=>agC e n
  have noA:∀ {b:Addr} {o:Obj} {es:Array W7} {ep:Nat},s₁.heap.get? b=some o->o.data = .dict es ep->H b=none:=fun {b o es ep} e d=>by
   cases q:H b with
   | none=>rfl
   | some u =>
    have e':b=a:=hA b (by rw [q];simp)
    subst e'
    rw [ha] at e;cases e
    have d':Data.seq vs.toArray _=Data.dict es ep:=d
    cases d'
  have nsK:∀ {b:Addr} {m:Str->Option Value},s₁.heap.Ns b m->(QX s₁.heap H).Ns b m:=fun {b m} ⟨o,es,ep,e,d,r⟩=>⟨o,es,ep,aaJ e (noA e d),d,r⟩
  have hKb:K.In (QX s₁.heap H):=fun b o e=>aaJ (KX b o e) (by
   cases q:H b with
   | none=>rfl
   | some u =>
    have e':b=a:=hA b (by rw [q];simp)
    subst e'
    rw [hK (by rw [q];simp)] at e;cases e)
  have hM:Mod K mg (QX s₁.heap H):=⟨hKb,nsK hns,⟨mb,nsK hb,hbb⟩,let ⟨mc,h1,h2⟩:=hlim;⟨mc,nsK h1,h2⟩⟩
  have e0:Ly P w K mg (QX s₁.heap H) zO [] s₁ H:=⟨rfl,hM,fun b o e=>aiX e,Ju (ab6 _ _),trivial,fun b hb=>absurd (show b∈([]:List Addr) from hb) (by simp),hok,.of_eq hg⟩
  refine uo ((F _ hKb (nsK hns)).run zO [] s₁ H ⟨[.ref a],[]⟩ [.ref a] [.ref a] _ _ hr e0 (hbind s₁ (.ref a)) (.cons rfl .nil) (hsp H hO hS)) fun r s' h=>?_
  cases r with
  | error e=>exact (hCX H e s' h).elim
  | ok fl =>
   cases fl with
   | next=>exact kY h
   | brk=>exact kY h
   | cont=>exact kY h
   | ret u =>
    obtain ⟨v,H',os,bare,un,hok',r',q⟩:=h
    have q':v = .bl true:=q
    subst q'
    obtain rfl:u=Value.bool true:=r'
    refine ⟨rfl,OldK.of_keep fun b o e=>?_,os,bare⟩
    cases q:H b with
    | none=>exact un.keep b o e q (by intro z;exact absurd (show b∈([]:List Addr) from z) (by simp)) (by simp)
    | some u =>
     rcases hO b with z | ⟨ob,xs,z⟩
     ·rw [q] at z;cases z
     ·have z2:=un.vP b ob _ z
      obtain ⟨e1,_⟩:=hok b _ z
      obtain ⟨e2,_⟩:=hok' b _ z2
      rw [e] at e1;cases e1
      exact e2
 cases hk:K.lookup a with
 | some o =>
  have e:=KX a o hk
  rw [ha] at e
  cases e
  refine core (fun _=>none) (fun _=>.inl rfl) (.inr ⟨_,vs.toArray,_,hk,rfl,rfl,rfl,by rw [cW,lenV];exact hl,by simpa using rv⟩) (fun b u z=>by have z':(none:Option HO)=some u:=z;cases z') (fun b z=>absurd rfl z) fun z=>absurd rfl z
 | none =>
  refine core (fun b=>if b=a then some (.frz { cls:=.type "list",data:=.seq vs.toArray } (.lst (ns.map V.int))) else none) (fun b=>?_) (.inl (.inr ⟨{ cls:=.type "list",data:=.seq vs.toArray },if_pos rfl⟩)) (fun b u z=>?_) (fun b z=>?_) fun _=>hk
  ·by_cases hb:b=a
   ·exact .inr ⟨_,_,if_pos hb⟩
   ·exact .inl (if_neg hb)
  ·by_cases hb:b=a
   ·have z':=(if_pos hb).symm.trans z
    cases z'
    subst hb
    exact ⟨ha,by rw [aZ];exact hl,vs,_,rv,ha⟩
   ·have z':=(if_neg hb).symm.trans z
    cases z'
  ·by_cases hb:b=a
   ·exact hb
   ·exact absurd (if_neg hb) z
noncomputable abbrev KOf {K:aW} {h:Heap} (_:K.In h):aW:=K
theorem ajb {l:PySem.W.OpenLaw} {n k:Nat} {q:aP} {loose:List Str} {XP:(Str->Option Value)->Heap->Prop} {YP:World->Heap->Prop} {d:PB} {K:Ed->aW} {CX:World->CXT} {sp:World->Sp} {x:Str}
  (hn:l.most=some n) (hn2:n<=sizeLine) (hdf:d.params.defaults=[]) (hr:jF k zO)
  (hY:∀ (w:World) (h:Heap),YP w h->(K w.params).In h)
  (F:∀ (w:World) (mg:Str->Option Value) (fa:Addr) (h:Heap),(K w.params).In h->h.Ns dI mg->mg d.name=some (.ref fa) ->
   ∃ fd:FuncData,(∀ (s:Shared) (u:Value),Ec s fd ⟨[u],[]⟩ [(x,u)]) /\
    ∀ base:Heap,(K w.params).In base->base.Ns dI mg->cB l.prog w (K w.params) mg base (CX w) k fa fd [x] (sp w))
  (hsp:∀ (w:World) (H:Hp) (a:Addr) (ns:List Int),ns.length<=n->Only H->SqL (K w.params) H a (ns.map V.int)->sp w [.ref a] H (fun v _=>v = .bl true) fun _ _ _=>False)
  (hCX:∀ (w:World) (H:Hp) (s:Shared) (e:Value) (s':Shared),CX w [] H s (fun _ _ _=>False) e s'->False) :
  Xh q loose XP YP l.row.toRowW d [] (fun f vs=>Pk f vs):=by
 refine Att.Uj hn hdf fun w s₀ s₁ mg mb fa o pm cd doc a vs ns G Y ho hd hcd hmg hobj hints hlen hg=>?_
 have KX:=hY w _ Y
 obtain ⟨fd,hb,hF⟩:=F w mg fa _ KX G.T.g hmg
 exact agV KX G.T.g G.T.b G.T.builtins G.T.nolimit hg hobj hints (gM hlen hn2) hr hF hb (fun H hO hS=>hsp w H a ns hlen hO hS) fun H e s'=>hCX w H s₁ e s'
noncomputable abbrev CX0:CXT:=fun _ _ _ _ _ _=>False
noncomputable abbrev E0:XK:=fun _ _ _=>False
theorem aL {X:Cx}:Passes CX0 X E0:=fun _ _ _ _ _ _ _ h=>h.elim
structure Fun (K:aW) (x qual:Str) (st:Stmt) (f:Addr) (fd:FuncData):Prop where
 ex:∃ (oc:Value) (od:Option Addr) (kV doc pm:Value) (an:Option Addr) (cdv ct:Value) (osl:Array (Option Value)),
  fd=lV x qual (kZ st) (jg st) (aG st) .none kV doc pm an cdv ct/\K.lookup f=some ⟨oc,od,.func fd,osl⟩/\Jm K cdv qual=true
 kp:ux K (.ref f)=true
section
variable {P:aP} {w:World} {K:aW} {mg:Str->Option Value} {base:Heap}
theorem Fun.ok {x qual:Str} {st:Stmt} {f:Addr} {fd:FuncData} {N ps:List Str} {k:Nat} {sp:Sp} (F:Fun K x qual st f fd) (S:aM N ps (aG st)) (len:∀ vs H Q E,sp vs H Q E->vs.length=ps.length)
  (hbody:∀ (cdv:Value) (A:bH) (outer:List Env) (s:Shared) (H:Hp) (vs:List V) (Q:VK) (E:XK),jF k (A.deeper (j7 qual (aG st) s.heap.objs.size f cdv))->sp vs H Q E ->
   ∃ t,PSs (Ab CX0 P w K mg base N qual (aG st) f cdv A outer s H E).nox (jg st) t/\t { nx:=fun _ H'=>Q .non H',rt:=Q } (start N vs) H):cB P w K mg base CX0 (k+1) f fd ps sp:=by
 obtain ⟨oc,od,kV,doc,pm,an,cdv,ct,osl,rfl,lk,hcd⟩:=F.ex
 refine akt lk hcd S len fun A outer s H vs Q E hr hsp=>?_
 obtain ⟨t,h,q⟩:=hbody cdv A outer s H vs Q E hr hsp
 exact ⟨t,h.nox,q⟩
theorem Fun.binds {x qual:Str} {st:Stmt} {f:Addr} {fd:FuncData} {ps:List Str} (F:Fun K x qual st f fd)
  (h:∀ (kV doc pm:Value) (an:Option Addr) (cdv ct:Value) (us:List Value),us.length=ps.length->zG (lV x qual (kZ st) (jg st) (aG st) .none kV doc pm an cdv ct) ⟨us,[]⟩=pure (ps.zip us)):Binds K fd ps []:=by
 obtain ⟨oc,od,kV,doc,pm,an,cdv,ct,osl,rfl,lk,hcd⟩:=F.ex
 exact .all (h kV doc pm an cdv ct)
theorem am2 {x qual:Str} {st:Stmt} {f:Addr} {oc:Value} {od an:Option Addr} {osl:Array (Option Value)} {kV doc pm cdv ct:Value} (l:K.lookup f=some ⟨oc,od,.func (lV x qual (kZ st) (jg st) (aG st) .none kV doc pm an cdv ct),osl⟩)
  (c:Jm K cdv qual=true) (k:ux K (.ref f)=true):Fun K x qual st f (lV x qual (kZ st) (jg st) (aG st) .none kV doc pm an cdv ct):=⟨⟨oc,od,kV,doc,pm,an,cdv,ct,osl,rfl,l,c⟩,k⟩
end
theorem cN {A:bH} {k:Nat} (hr:jF k A):A.units+1<cLine:=Jr (Nat.add_le_add_left (by decide:1<=64) _) hr.units
theorem bB {n:Nat} (h:n<=1000):n<sizeLine:=Jr h (by decide)
section
variable {X:Cx}
theorem pv (i:Nat) {x:Str} {pos:Pos} (hN:X.N[i]? = some x:=by rfl) (hv:Vis X.env.scope x:=by first | exact Or.inl rfl | exact Or.inr (Or.inl rfl) | exact Or.inr (Or.inr rfl)) (hd:(x == ("__debug__" : Str))=false:=by decide)
  (hcd:(x == ("__classdict__" : Str))=false:=by decide):PE X (.Name x pos) (tVar i):=amT hN hv hd hcd
end
theorem tH {A B:Prop} (h:B):if false=true then A else B:=by
 rw [if_neg gO]
 exact h
theorem oG {A B:Prop} (h:A):if true=true then A else B:=by
 rw [if_pos rfl]
 exact h
theorem fH {c A B:Prop} [Decidable c] (h1:c->A) (h2:¬ c->B):if c then A else B:=by
 by_cases h:c
 ·rw [if_pos h]
  exact h1 h
 ·rw [if_neg h]
  exact h2 h
theorem pD {c A B:Prop} [Decidable c] (hc:c) (h:B):if (!decide c)=true then A else B:=by
 rw [decide_eq_true hc]
 exact tH h
noncomputable def Same (H H':Hp):Prop:=∀ b o,H b=some o->H' b=some o
theorem Same.refl (H:Hp):Same H H:=fun _ _ h=>h
theorem Same.trans {H H1 H2:Hp} (a:Same H H1) (b:Same H1 H2):Same H H2:=fun c o h=>b c o (a c o h)
theorem Same.free {H H':Hp} (e:Same H H') {l:Addr} (h:H' l=Option.none):H l=Option.none:=by
 cases q:H l with
 | none=>rfl
 | some o =>
  rw [e l o q] at h
  cases h
theorem Same.seq {K:aW} {H H':Hp} {a:Addr} {xs:List V} (e:Same H H') (h:SqL K H a xs):SqL K H' a xs:=by
 rcases h with (h | ⟨o,h⟩) | h
 ·exact .inl (.inl (e _ _ h))
 ·exact .inl (.inr ⟨o,e _ _ h⟩)
 ·exact .inr h
section
variable {κ:Type} [DecidableEq κ]
end
end L2
set_option Elab.async false
set_option maxRecDepth 100000
namespace L2
open PySem PySem.Spec PyProof.Rows
section
variable {X:Cx}
noncomputable def aaK (K:aW):List V->Hp->VK->Prop:=fun xs H Q=>(∃ x n,xs=[x]/\LenV K x H n/\Q (.int n) H)\/∃ a kvs,xs=[V.ref a]/\Rd H a (.dK kvs)/\Q (.int kvs.length) H
theorem Y8:gP X (.builtin "len") (fun xs H Q=>∃ a kvs,xs=[V.ref a]/\Rd H a (.dK kvs)/\Q (.int kvs.length) H):=by
 walk_at "f"
 obtain ⟨a,kvs,rfl,ha,q⟩:=h
 obtain ⟨u,rfl,ru⟩:=vals1 r
 cases ru
 exact d_len I ha fun t s' I'=>⟨.int kvs.length,H,I',⟨t,rfl⟩,q⟩
theorem dJ:gP X (.builtin "len") (aaK X.K):=agK.or Y8
noncomputable def Rh (K:aW):R2:=fun x y H Q=>rIxL K x y H Q\/rIxT K x y H Q\/∃ a v,x = .ref a/\Rg H a y (some v)/\Q v H
theorem ajc (hu:X.A.units+1<cLine):IxR X (fun x y H Q=>∃ a v,x = .ref a/\Rg H a y (some v)/\Q v H):=by
 intro value slice pins s σ H x y v u Q I rx ry h hs
 obtain ⟨a,z,rfl,g,q⟩:=h
 obtain rfl:v=Value.ref a:=rx
 have hT:=Ug I g
 unfold Qw
 refine aJ ?_
 rw [getitemInPython_of_ne hT.not_modules]
 refine aJ (O8 hT PySem.F.slot_dict_getitem.lookup ?_)
 have fin:wpAny (model X.prog X.w) X.A (Wz slice false (.ref a) u) (fun r s₃=>wpAny (model X.prog X.w) X.A (letTemporaryGo value (.ref a) r >>= fun _=>pure r) (EP X pins σ Q) X.xe s₃) X.xe s:=by
  rw [hs]
  exact wpAny_operating (acq hu I g ry fun w' s3 I3 rw'=>aJ (wpAny_letTemporaryGo (aR ⟨z,H,I3,rw',q⟩)))
 first
  | exact aR (aJ fin)
  | exact aJ (aR (aJ fin))
  | exact aJ fin
theorem ixG (hu:X.A.units+1<cLine):IxR X (Rh X.K):=ai6.or (amW.or (ajc hu))
noncomputable def aky:V->V->V->Hp->(Hp->Prop)->Prop:=fun o i v H Q=>aku o i v H Q\/∃ a H',o = .ref a/\DPut H a i v H'/\Q H'
theorem setG (hu:X.A.units+1<cLine):PSet X aky:=by
 intro pins s σ H o i v ov iv u Q I ro ri rv h
 rcases h with h | ⟨a,H',rfl,g,q⟩
 ·exact set_list pins s σ H o i v ov iv u Q I ro ri rv h
 ·obtain rfl:ov=Value.ref a:=ro
  exact acr hu I g ri rv fun s' I'=>⟨H',I',q⟩
noncomputable def rInG (K:aW) (neg:Bool):R2:=fun x y H Q=>rIn K neg x y H Q\/∃ a o,y = .ref a/\Rg H a x o/\Q (.bl (if neg then !o.isSome else o.isSome)) H
theorem am3 (hu:X.A.units+1<cLine):OpR X (kO .NotIn) (rInG X.K true):=by
 walk_at "g"
 rcases h with h | ⟨a,o,rfl,g,q⟩
 ·exact Rb pins s σ H x y v u Q I rx ry h
 ·obtain rfl:u=Value.ref a:=ry
  exact aja hu I g rx fun s' I'=>⟨.bl (!o.isSome),H,I',rfl,q⟩
noncomputable def am4:List V->Hp->VK->Prop:=fun xs H Q=>∃ a kvs,xs=[V.ref a]/\Rd H a (.dK kvs)/\∀ p,H p=none->Q (.ref p) (upd H p (.dK kvs))
theorem JZ:gP X (.type "dict") am4:=by
 walk_at "f"
 obtain ⟨a,kvs,rfl,ha,q⟩:=h
 obtain ⟨u,rfl,ru⟩:=vals1 r
 cases ru
 exact agU I ha fun p s' hp I'=>⟨.ref p,_,I',rfl,q p hp⟩
theorem M9:gP X (.type "int") (fun xs H Q=>(∃ i,xs=[.int i]/\Q (.int i) H)\/∃ k,xs=[.bl k]/\Q (.int (if k then 1 else 0)) H):=ach
theorem aaL {P:aP} {w:World} {k:Key} {u:Value} (h:(dj P w).is k u=true):RelV (kV k) u:=by
 rcases fJ (show JK k u=true from h) with ⟨i,t,rfl,rfl⟩ | ⟨x,t,rfl,rfl⟩
 ·exact ⟨t,rfl⟩
 ·exact ⟨t,rfl⟩
theorem Ft {P:aP} {w:World}:∀ {kvs:List (Key × V)} {vs:List (Key × Value)} {us:List Value},KV kvs vs->us.length=vs.length ->
  (∀ (j:Nat) (u:Value),us[j]? = some u->∃ k x,vs[j]? = some (k,x)/\(dj P w).is k u=true)->Vals (kvs.map fun p=>kV p.1) us
 | [],_,[],.nil,_,_=>.nil
 | [],_,_::_,.nil,hl,_=>by cases hl
 | _::_,_,[],.cons _ _,hl,_=>by cases hl
 | p::ps,_,u::us,.cons (b:=q) r t,hl,h=>by
  obtain ⟨k,x,e,hk⟩:=h 0 u rfl
  have e':q=(k,x):=by simpa using e
  have e2:p.1=k:=by rw [r.1,e']
  refine .cons (by show RelV (kV p.1) u;rw [e2];exact aaL hk) (Ft (P:=P) (w:=w) t (by simpa using hl) fun j v hv=>?_)
  obtain ⟨k',x',e'',hk'⟩:=h (j+1) v (by simpa using hv)
  exact ⟨k',x',by simpa using e'',hk'⟩
theorem Nf:∀ {kvs:List (Key × V)} {vs:List (Key × Value)} {us:List Value},KV kvs vs->us.length=vs.length ->
  (∀ (j:Nat) (u:Value),us[j]? = some u->∃ k,vs[j]? = some (k,u))->Vals (kvs.map (·.2)) us
 | [],_,[],.nil,_,_=>.nil
 | [],_,_::_,.nil,hl,_=>by cases hl
 | _::_,_,[],.cons _ _,hl,_=>by cases hl
 | p::ps,_,u::us,.cons (b:=q) r t,hl,h=>by
  obtain ⟨k,e⟩:=h 0 u rfl
  have e':q=(k,u):=by simpa using e
  refine .cons (by have:=r.2;rw [e'] at this;exact this) (Nf t (by simpa using hl) fun j v hv=>?_)
  obtain ⟨k',e''⟩:=h (j+1) v (by simpa using hv)
  exact ⟨k',by simpa using e''⟩
noncomputable def agW:List V->Hp->VK->Prop:=fun xs H Q=>∃ a kvs,xs=[V.ref a]/\Rd H a (.dK kvs)/\∀ p,H p=none->Q (.ref p) (upd H p (.lst (kvs.map fun p=>kV p.1)))
theorem Y9 (hc:X.calm=true):gP X (.type "list") agW:=by
 walk_at "f"
 obtain ⟨a,kvs,rfl,ha,q⟩:=h
 obtain ⟨u,rfl,ru⟩:=vals1 r
 cases ru
 obtain ⟨z,hd,vs,rel,dd⟩:=wY I.hok ha
 obtain ⟨ep,hat⟩:=dd.dictAt
 have hl:=rel.length
 refine PySem.W.kdl_call (aep (knd:=dj X.prog X.w) (kvs:=vs) (ep:=ep) hd) (I.ok.hd hc) hat (by rw [<- hl];exact z) fun h' tk acc' c' hk hD hacc=>?_
 have hv:Vals (kvs.map fun p=>kV p.1) acc'.toList:=Ft rel (by rw [qx];exact hacc.1) fun j v e=>hacc.2 j v (by rw [<- qw];exact e)
 refine ⟨.ref s.heap.objs.size,_,I.laid (a:=s.heap.objs.size) (o:=.lst (kvs.map fun p=>kV p.1)) (t':=tk) hk (bh _) ?_,rfl,q _ (I.hok.fresh (bh _))⟩
 exact ⟨by rw [aZ];exact z,acc'.toList,c',hv,by first | (rw [ae5];exact hD) | simpa using hD⟩
noncomputable def am5 (K:aW):List V->Hp->VK->Prop:=fun xs H Q=>(∃ p ys,xs=[.ref p]/\(SqL K H p ys\/SqT K H p ys)/\∀ l,H l=none->Q (.ref l) (upd H l (.lst ys)))\/agW xs H Q
theorem J0 (hc:X.calm=true):gP X (.type "list") (am5 X.K):=Rf.or (Y9 hc)
noncomputable def rIsi (K:aW):List V->Hp->VK->Prop:=fun xs H Q=>∃ x c t cv b,xs=[x,c]/\RelV c cv/\(∀ u,RelV c u->u=cv)/\Aa K H x t/\oZ K t cv=some b/\Q (.bl b) H
theorem call_isinstance:gP X (.builtin "isinstance") (rIsi X.K):=by
 walk_at "f"
 obtain ⟨x,c,t,cv,b,rfl,rc,inj,ty,e,q⟩:=h
 obtain ⟨u,w',rfl,ru,rw'⟩:=vals2 r
 obtain rfl:=inj w' rw'
 exact acn I ru ty e fun tk=>⟨.bl b,H,I.tok tk,rfl,q⟩
variable {a b c d:Expr} {ta tb tc td:TE} {pos:Pos}
end
section
variable {P:aP} {w:World} {H H':Hp} {h h':Heap} {a:Addr} {o:HO}
theorem dG.ex (x:dG P w H h a o):∃ u,h.get? a=some u:=by
 cases o with
 | lst xs=>obtain ⟨_,_,_,_,e⟩:=x;exact ⟨_,e⟩
 | tup xs=>obtain ⟨_,_,_,ob,e,_⟩:=x;exact ⟨ob,e⟩
 | dK kvs=>obtain ⟨_,_,_,_,o,_,_,e,_⟩:=x;exact ⟨o,e⟩
 | dT kvs=>obtain ⟨_,_,_,_,o,_,_,e,_⟩:=x;exact ⟨o,e⟩
 | set S n=>obtain ⟨o,_,_,_,e,_⟩:=x;exact ⟨o,e⟩
 | ins C dx fs=>obtain ⟨_,_,_,e,_⟩:=x;exact ⟨_,e⟩
 | own y=>exact x
 | xd fs=>obtain ⟨_,⟨o,_,_,e,_⟩,_⟩:=x;exact ⟨o,e⟩
 | rng lo hi=>obtain ⟨_,_,_,e⟩:=x;exact ⟨_,e⟩
 | frz ob u=>obtain ⟨e,_⟩:=x;exact ⟨_,e⟩
 | tbl ps=>exact ⟨_,show h.get? a=some _ from x⟩
 | met f y=>exact ⟨_,show h.get? a=some _ from x⟩
 | ext φ=>obtain ⟨_,⟨o,e⟩,_⟩:=x;exact ⟨o,e⟩
theorem HOk.Gw (x:HOk P w H h) (k:∀ b u,h.get? b=some u->h'.get? b=some u) (hn:H a=none) (new:dG P w (upd H a o) h' a o):HOk P w (upd H a o) h':=fun b u e=>by
 by_cases hb:b=a
 ·subst hb;rw [ak] at e;cases e;exact new
 ·rw [aA hb] at e
  exact (x b u e).stay (fun c v _ q=>k c v q) (fun c q=>by rw [aA (aq q hn)];exact q) fun c xs q=>by rw [aA (aq q hn)];exact q
theorem Un.Gw {fs ex:List Addr} (k:∀ b u,h.get? b=some u->h'.get? b=some u) (hne:∀ b u,h.get? b=some u->b≠a) (hn:H a=none):Un fs ex H (upd H a o) h h' where
 keep:=fun b u q _ _ _=>k b u q
 slot:=fun b u q _ _ _=>⟨u.slots,k b u q⟩
 free:=fun b u q n _=>by rw [aA (hne b u q)];exact n
 there:=fun b u q _=>⟨u,k b u q⟩
 tups:=fun b xs q=>by rw [aA (aq q hn)];exact q
 vP:=fun b u xs q=>by rw [aA (aq q hn)];exact q
 zZ:=fun b ps q=>⟨#[],by rw [aA (aq q hn),q];simp⟩
end
section
variable {X:Cx} {pins:List (Addr × Obj)} {σ:St} {H H':Hp} {s:Shared} {h':Heap}
theorem Inv.none_of (I:Inv X pins σ H s) {a:Addr} (hne:∀ b u,s.heap.get? b=some u->b≠a):H a=none:=by
 cases q:H a with
 | none=>rfl
 | some u =>
  obtain ⟨v,e⟩:=(I.hok a u q).ex
  exact absurd rfl (hne a v e)
theorem Inv.Gw {a:Addr} {o:HO} {t':Nat} (I:Inv X pins σ H s) (k:∀ b u,s.heap.get? b=some u->h'.get? b=some u) (hne:∀ b u,s.heap.get? b=some u->b≠a) (new:dG X.prog X.w (upd H a o) h' a o) :
  Inv X pins σ (upd H a o) { s with heap:=h',toks:=t' }:=I.un (Un.Gw k hne (I.none_of hne)) (I.hok.Gw k (I.none_of hne) new)
theorem Inv.agX {t':Nat} {it t:Addr} {o:HO} (I:Inv X pins σ H s) (k:∀ b u,b≠it->s.heap.get? b=some u->h'.get? b=some u) (hie:∃ u,h'.get? it=some u) (hn:H it=none) (hL:it≠X.env.locals)
  (h1:it∈X.ex\/X.s₀.heap.objs.size<=it) (h2:∀ x c,X.env.cells.lookup x=some c->c≠it) (h3:∀ p∈X.pn++pins,p.1≠it) (ht:s.heap.objs.size<=t)
  (new:dG X.prog X.w (upd H t o) h' t o):Inv X pins σ (upd H t o) { s with heap:=h',toks:=t' }:=by
 have nit:∀ b u,H b=some u->b≠it:=fun b u e z=>by rw [z,hn] at e;cases e
 have ntt:H t=none:=I.hok.fresh ht
 have lt:∀ b u,s.heap.get? b=some u->b≠t:=fun b u e=>cM (gk (bR e) ht)
 refine I.step (g':=s.gens) (d':=s.drawn) (ch:=[it]) (fun b hb=>?_) (fun b o _ _ hc e _=>k b o (fun z=>hc (by simp [z])) e) (fun b o _ _ hc e _=>⟨o.slots,k b o (fun z=>hc (by simp [z])) e⟩) (fun b u _ e n=>by rw [aA (lt b u e)];exact n)
  (fun b o hc e=>⟨o,k b o (fun z=>hc (by simp [z])) e⟩) (fun b xs e=>by rw [aA (aq e ntt)];exact e) (fun b q u e=>by rw [aA (aq e ntt)];exact e) (fun b ps e=>⟨#[],by rw [aA (aq e ntt),e];simp⟩) (fun m hm=>?_) (fun b u e=>?_) I.bare
 ·have e:b=it:=by simpa using hb
  subst e
  exact ⟨h1,hL,h2,h3⟩
 ·obtain ⟨o,es,ep,ho,r⟩:=hm
  exact ⟨o,es,ep,k _ o (aU hL) ho,r⟩
 ·by_cases hb:b=t
  ·subst hb;rw [ak] at e;cases e;exact new
  ·rw [aA hb] at e
   refine (I.hok b u e).stay (fun c v hc q=>k c v ?_ q) (fun c q=>by rw [aA (aq q ntt)];exact q) fun c xs q=>by rw [aA (aq q ntt)];exact q
   rcases hc with z | z
   ·rw [z];exact nit b u e
   ·exact nit c _ z
theorem Inv.freeze {a:Addr} {kvs:List (Key × V)} (I:Inv X pins σ H s) (e:H a=some (.dK kvs)):∃ o es ep,o.data = .dict es ep/\s.heap.get? a=some o/\Inv X pins σ (upd H a (.frz o (.dK kvs))) s:=by
 obtain ⟨z,hd,vs,rel,o,es,ep,ho,hx⟩:=akx I.hok e
 refine ⟨o,es,ep,hx.2.1,ho,?_⟩
 have I':Inv X pins σ (upd H a (.frz o (.dK kvs))) { s with heap:=s.heap,toks:=s.toks }:=I.write (x:=a) (e:=a) (by rw [e];exact trivial) (.inl rfl) (fun _ _ _ q=>q) ⟨o,ho⟩ ⟨ho,z,hd,vs,rel,o,es,ep,ho,hx⟩
 exact I'
theorem Inv.thaw {a:Addr} {o:Obj} {kvs:List (Key × V)} (I:Inv X pins σ H s) (e:H a=some (.frz o (.dK kvs))) (th:∀ q u,X.H₀ a≠some (.frz q u)):Inv X pins σ (upd H a (.dK kvs)) s:=by
 have ne:∀ b,H b=none->b≠a:=fun b n z=>by rw [z,e] at n;cases n
 have nt:∀ b xs,H b=some (.tup xs)->b≠a:=fun b xs n z=>by rw [z,e] at n;cases n
 have no:∀ b y,H b=some (.own y)->b≠a:=fun b y n z=>by rw [z,e] at n;cases n
 refine ⟨I.ok,I.os,I.bare,⟨I.base.keep,I.base.slot,fun b ob q n hx=>?_,I.base.there,fun b xs q=>?_,fun b ob u q=>?_,fun b ps q=>?_⟩,I.loc,I.cell,?_,fun x c q=>?_,fun p hp=>?_,fun b u q=>?_,I.len⟩
 ·have n':=I.base.free b ob q n hx
  rw [aA (ne b n')];exact n'
 ·have q':=I.base.tups b xs q
  rw [aA (nt b xs q')];exact q'
 ·have q':=I.base.vP b ob u q
  rw [aA (fun (z:b=a)=>th ob u (z ▸ q))];exact q'
 ·obtain ⟨m,q'⟩:=I.base.zZ b ps q
  exact ⟨m,by rw [aA (fun z=>by rw [z,e] at q';cases q')];exact q'⟩
 ·rw [aA (ne _ I.free)];exact I.free
 ·have n:=I.oA x c q
  rw [aA (ne _ n)];exact n
 ·obtain ⟨h1,n,r⟩:=I.pin p hp
  exact ⟨h1,by rw [aA (ne _ n)];exact n,r⟩
 ·by_cases hb:b=a
  ·subst hb;rw [ak] at q;cases q
   obtain ⟨_,r⟩:=(show dG X.prog X.w H s.heap b (.frz o (.dK kvs)) from I.hok b _ e)
   exact r
  ·rw [aA hb] at q
   exact (I.hok b u q).stay (fun _ _ _ r=>r) (fun c r=>by rw [aA (no c b r)];exact r) fun c xs r=>by rw [aA (nt c xs r)];exact r
end
noncomputable def Iti (a:Addr) (o:Obj) (kvs:List (Key × V)):It :=
 ⟨fun i H=>H a=some (.frz o (.dK kvs))/\i<kvs.length,fun i H x H'=>∃ p t,kvs[i]? = some p/\H t=none/\x = .ref t/\H'=upd H t (.tup [kV p.1,p.2]),fun i H=>H a=some (.frz o (.dK kvs))/\kvs.length<=i⟩
theorem Za {P:aP} {w:World} {H:Hp} {h:Heap} {a:Addr} {o:Obj} {kvs:List (Key × V)} {es:Array W7} {ep:Nat} (hok:HOk P w H h) (e:H a=some (.frz o (.dK kvs))) (hd:o.data = .dict es ep) :
  ∃ vs,KV kvs vs/\h.DictAt (dj P w) a vs ep:=by
 obtain ⟨ho,_,_,vs,rel,o',es',ep',ho',h2,h3,r⟩:=(show dG P w H h a (.frz o (.dK kvs)) from hok a _ e)
 rw [ho] at ho';cases ho'
 rw [hd] at h3;cases h3
 exact ⟨vs,rel,o,_,ho,h2,hd,r⟩
theorem KV.at {kvs:List (Key × V)} {vs:List (Key × Value)} (r:KV kvs vs):∀ {i:Nat} {p:Key × V},kvs[i]? = some p->∃ v,vs[i]? = some (p.1,v)/\RelV p.2 v:=by
 unfold KV at r
 induction r with
 | nil=>intro i p e;simp at e
 | @cons a b as bs h t ih =>
  intro i p e
  cases i with
  | zero =>
   have e':a=p:=by simpa using e
   subst e'
   exact ⟨b.2,by rw [h.1];rfl,h.2⟩
  | succ j =>
   obtain ⟨v,h1,h2⟩:=ih (i:=j) (p:=p) (by simpa using e)
   exact ⟨v,by simpa using h1,h2⟩
theorem yM:zK table "dict_itemiterator.__iter__" = some dZ.«dict_keyiterator.__iter__» :=
 Wr (id' := "dict_keyiterator.__iter__") (by kernel_rfl) rfl tb_g% (by kernel_rfl)
theorem vQ {prog:aP} {w:World} {A:bH} {E:Value->Shared->Prop} {s:Shared} {it d:Addr} {i n ep:Nat} {ok ov:Value} {Q:Value->Shared->Prop} (hit:IsItemIter s.heap it d i n ep ok ov) (h:Q (.ref it) s) :
  wpAny (model prog w) A (wA (.ref it)) Q E s:=by
 have hT:s.TypeIs (.ref it) "dict_itemiterator" := ⟨_,hit,rfl⟩
 refine Wo hT F.slot_dict_itemiterator_iter (yP F.slot_dict_itemiterator_iter hT yM ?_ (F.args_dict_itemiterator_iter_1 _))
 show wpAny _ _ (ret (.ref it)) _ _ s
 exact aR ⟨_,rfl,"dict_itemiterator",_,hT,F.slot_dict_itemiterator_next.lookup,h⟩
theorem Zb {P:aP} {w:World} {K:aW} {elts:List Expr} {x1} {tpos:Pos} (a it:Addr) (o:Obj) (kvs:List (Key × V)) {es:Array W7} {ep:Nat} (hd:o.data = .dict es ep) :
  Turn P w K (.Tuple elts x1 tpos) (Iti a o kvs) [it] it (fun i h=>∃ ok ov,IsItemIter h it a i kvs.length ep ok ov) where
 mem:=by simp
 obj:=fun i h st b hb=>by
  have e:b=it:=by simpa using hb
  subst e
  obtain ⟨ok,ov,e⟩:=st
  exact ⟨_,e,fun v z=>by cases z⟩
 keep:=fun i h h' st k=>by
  obtain ⟨ok,ov,e⟩:=st
  exact ⟨ok,ov,k it (by simp) _ e⟩
 item:=by
  walk_at "c"
  subst hP hw hK
  obtain ⟨e,hi⟩:=hg
  obtain ⟨vs,rel,dm⟩:=Za I.hok e hd
  have hl:=rel.length
  obtain ⟨p,hp⟩:∃ p,kvs[i]? = some p:=⟨kvs[i],by simp [hi]⟩
  obtain ⟨v,hv,rv⟩:=rel.at hp
  k_dat it "d"
  obtain ⟨ok,ov,st⟩:=st
  refine wpAny_pyNext_items_item (knd:=dj X.prog X.w) (by rw [<- hl];exact st) dm hv fun key h' hkey heo ht hz hk=>?_
  have hit:it<s.heap.objs.size:=bR st
  have nt:H s.heap.objs.size=none:=I.hok.fresh (bh _)
  have I1:Inv X pins σ (upd H s.heap.objs.size (.tup [kV p.1,p.2])) { s with heap:=h' }:=I.agX (t':=s.toks) hk ⟨_,heo⟩ f0 f1 f3 f4 f5 (bh _)
   ⟨by show 2<=sizeLine;decide,[key,v],.cons (aaL hkey) (.cons rv .nil),⟨_,ht,rfl,_,rfl⟩⟩
  have n1:(upd H s.heap.objs.size (.tup [kV p.1,p.2])) it=none:=by rw [aA (cM hit)];exact f0
  refine ⟨.ref s.heap.objs.size,rfl,wpAny_letOwnedTupleGo_items heo fun h2 he2 hs2=>?_⟩
  refine ⟨.ref s.heap.objs.size,_,I1.turned (t':=s.toks) (fun b ob hb q=>(hs2.2 b hb).trans q) n1 f1 f3 f4 f5,rfl,⟨p,_,hp,nt,rfl,rfl⟩,⟨key,v,by rw [<- hl] at he2;exact he2⟩,fun b hb=>?_⟩
  have eb:b=it:=by simpa using hb
  subst eb
  exact n1
 done:=by
  walk_at "c"
  subst hP hw hK
  obtain ⟨e,hi⟩:=hg
  obtain ⟨vs,rel,dm⟩:=Za I.hok e hd
  have hl:=rel.length
  k_dat it "d"
  obtain ⟨ok,ov,st⟩:=st
  exact wpAny_pyNext_items_end (knd:=dj X.prog X.w) (I.ok.hd hc) (by rw [<- hl];exact st) dm (by rw [Im];lia) fun h' eb=>⟨rfl,I.turned (t':=s.toks) (fun b o hb e=>eb b o hb e) f0 f1 f3 f4 f5⟩
 self:=fun A i s Q E st h=>by
  obtain ⟨ok,ov,e⟩:=st
  exact vQ e h
section
variable {X:Cx} {tg:Expr}
noncomputable abbrev Warm (X:Cx) (a:Addr):Prop:=∀ q u,X.H₀ a≠some (.frz q u)
theorem Inv.warm {pins:List (Addr × Obj)} {σ:St} {H:Hp} {s:Shared} {a:Addr} {kvs:List (Key × V)} (I:Inv X pins σ H s) (e:H a=some (.dK kvs)):Warm X a:=fun q u z=>by
 have:=I.base.vP a q u z
 rw [e] at this;cases this
noncomputable def agY (X:Cx) (td:TE):TI:=fun σ H R=>td σ H fun x H1=>∃ a kvs,x = .ref a/\H1 a=some (.dK kvs)/\∀ o,Warm X a->R (Iti a o kvs) (upd H1 a (.frz o (.dK kvs)))
structure MI (X:Cx) (o:Expr) (m:Str) (apos cpos:Pos):Prop where
 base:v9 o m X.env (eval o X.env)=eval o X.env
 line:(apos.endLine == cpos.line)=true
theorem agZ {l:Expr} {td:TE} {elts:List Expr} {x1} {tpos apos cpos:Pos} (hl:PE X l td) (m:MI X l "items" apos cpos):PI X (.Tuple elts x1 tpos) (.Call (.Attribute l "items" apos) [] [] cpos) (agY X td):=by
 intro pins s σ H R I h
 refine Wm (T := "dict") (id := "dict.items") m.base rfl m.line Xy aeP PySem.F.type_dict_items (thn (hl pins s σ H _ I h) fun v s1 ⟨x,H1,I1,r1,q1⟩=>?_)
 obtain ⟨a,kvs,rfl,e,q⟩:=q1
 obtain rfl:v=Value.ref a:=r1
 obtain ⟨t1,t2,hS⟩:=Y7 I1 (.inl ⟨kvs,.inl e⟩)
 refine ⟨t1,t2,?_⟩
 obtain ⟨o,es,ep,hd,ho,If⟩:=I1.freeze e
 obtain ⟨vs,rel,dm⟩:=Za If.hok ak hd
 have hl':=rel.length
 refine ad6 aeP PySem.F.entry_dict_items rfl (adY ⟨rfl,t1,PySem.F.args_dict_items_1 _,_,meets_dict_items (dj X.prog X.w) a hS,⟨vs,dm.dictOf⟩,?_⟩)
 refine wpAny_pyIter_items (knd:=dj X.prog X.w) (d:=a) ⟨_,eU _ rfl,rfl,rfl⟩ (dm.push _) ?_
 have I2:=If.kept (h':=s1.heap.push { cls:=.type "dict_items",data:=.fields #[.ref a] }) (t':=s1.toks) fun b ob e=>dX _ e
 refine ⟨(s1.heap.push { cls:=.type "dict_items",data:=.fields #[.ref a] }).objs.size,[(s1.heap.push { cls:=.type "dict_items",data:=.fields #[.ref a] }).objs.size],_,_,_,rfl,I2.kept (t':=s1.toks) fun b ob e=>dX _ e,Zb a _ o kvs hd,
  ⟨.none,.none,by rw [hl'];exact eU _ rfl⟩,fun b hb=>?_,q o (I1.warm e)⟩
 have eb:b=(s1.heap.push { cls:=.type "dict_items",data:=.fields #[.ref a] }).objs.size:=by simpa using hb
 subst eb
 exact I2.ab9 (bh _) (I2.hok.fresh (bh _))
noncomputable def ag0 (X:Cx) (D:Ends):Ends where
 nx:=fun σ H=>∃ a kvs o,Warm X a/\H a=some (.frz o (.dK kvs))/\D.nx σ (upd H a (.dK kvs))
 rt:=fun v H=>∃ a kvs o,Warm X a/\H a=some (.frz o (.dK kvs))/\D.rt v (upd H a (.dK kvs))
theorem ajd {pins:List (Addr × Obj)} {D:Ends} {f:Flow} {s':Shared} (h:SP X pins (ag0 X D) f s'):SP X pins D f s':=by
 cases f with
 | next =>
  obtain ⟨σ',H',I,a,kvs,o,w,e,q⟩:=h
  exact ⟨σ',_,I.thaw e w,q⟩
 | brk =>
  obtain ⟨σ',H',I,q⟩:=h
  exact q.elim
 | cont =>
  obtain ⟨σ',H',I,q⟩:=h
  exact q.elim
 | ret u =>
  obtain ⟨v,σ',H',I,r,a,kvs,o,w,e,q⟩:=h
  exact ⟨v,σ',_,I.thaw e w,r,q⟩
noncomputable def tForI (X:Cx) (td:TE) (g:TG) (tb:TS):TS:=fun D σ H=>tFor (agY X td) g tb (ag0 X D) σ H
theorem aaM {l:Expr} {td:TE} {body:List Stmt} {elts:List Expr} {x1} {tpos apos cpos:Pos} {g:TG} {tb:TS} {pos:Pos} (hp:WY (model X.prog X.w) X.A X.env X.xe) (hc:X.calm=true) (hl:PE X l td) (m:MI X l "items" apos cpos)
  (hg:PG X (.Tuple elts x1 tpos) g) (hb:PSs X body tb)
  (hs:∀ x,Iw (.Call (.Attribute l "items" apos) [] [] cpos) X.env x=pure x:=by intro _;rfl):PS X (.For (.Tuple elts x1 tpos) (.Call (.Attribute l "items" apos) [] [] cpos) body [] pos) (tForI X td g tb) :=
 fun pins s σ H D I h=>thn (rR hp hc (agZ hl m) hg hb hs pins s σ H (ag0 X D) I h) fun _ _ q=>ajd q
theorem Ng {a:Addr} {o:Obj} {kvs:List (Key × V)} {g:TG} {tb:TS} {D:Ends} {σ:St} {H:Hp} (Pv:Nat->St->Hp->Prop) (h0:Pv 0 σ H) (hl:∀ i σ H,Pv i σ H->H a=some (.frz o (.dK kvs)))
  (hs:∀ i p t σ H,kvs[i]? = some p->Pv i σ H->H t=none->g (.ref t) σ (upd H t (.tup [kV p.1,p.2])) fun σ2 H2=>tb { D with nx:=Pv (i+1),ct:=Pv (i+1),bk:=D.nx } σ2 H2) (hd:∀ σ H,Pv kvs.length σ H->D.nx σ H) :
  ∃ W:Nat->Nat->St->Hp->Prop,(∃ m,W 0 m σ H)/\∀ i m σ H,W i m σ H ->
   ((Iti a o kvs).stop i H/\D.nx σ H)\/((Iti a o kvs).go i H/\∃ N:St->Hp->Prop,(∀ σ' H',N σ' H'->∃ m',m'<m/\W (i+1) m' σ' H')/\∀ x H',(Iti a o kvs).yld i H x H'->g x σ H' fun σ2 H2=>tb { D with nx:=N,ct:=N,bk:=D.nx } σ2 H2):=by
 refine ⟨fun i m σ H=>m=kvs.length-i/\i<=kvs.length/\Pv i σ H,⟨kvs.length,by simp,dF _,h0⟩,?_⟩
 rintro i m σ H ⟨rfl,hi,p⟩
 have q:=hl i σ H p
 by_cases hlt:i<kvs.length
 ·refine .inr ⟨⟨q,hlt⟩,Pv (i+1),fun σ' H' p'=>⟨kvs.length-(i+1),by lia,rfl,hlt,p'⟩,fun x H' y=>?_⟩
  obtain ⟨pr,t,hp,ht,ex,e⟩:=y
  subst e ex
  exact hs i pr t σ H hp p ht
 ·have e:i=kvs.length:=by lia
  subst e
  exact .inl ⟨⟨q,bh _⟩,hd σ H p⟩
end
section
variable {X:Cx} {l:Expr} {td:TE} {p kp cpos apos pos:Pos} {j:Nat} {bpos:Pos}
noncomputable def aje (td:TE):TE:=fun σ H Q=>td σ H fun x H1=>∃ a kvs ns,x = .ref a/\Rd H1 a (.dK kvs)/\kvs.map (·.2)=ns.map V.int/\ns.length<64 /\
 ∀ (l:Addr) (ns':List Int),H1 l=none->ns'.Perm ns->ns'.Pairwise (· >= ·)->Q (.ref l) (upd H1 l (.lst (ns'.map V.int)))
theorem J8 {A:bH} {E:Value->Shared->Prop} {s:Shared} {T:String} {r d:Addr} {n:Nat} {P:Nat->Value->Prop} {OK:Heap->Prop} {ns:List Int} {bb:Bool} {Q:Value->Shared->Prop}
  (K:aev X.prog X.w T r d n P OK) (hh:A.handled=none) (hok:OK s.heap) (hn:n<=sizeLine) (h64:n<64) (hP:∀ us:List Value,us.length=n->(∀ (j:Nat) (v:Value),us[j]? = some v->P j v)->IntsAre us ns)
  (h:∀ (h':Heap) (tk:Nat) (l:Addr) (out:Array Value) (ns':List Int) (e:Nat),(∀ b ob,s.heap.get? b=some ob->h'.get? b=some ob)->(∀ b ob,s.heap.get? b=some ob->b≠l)->h'.get? l=some (wO "list" out e) ->
   IntsAre out.toList ns'->ns'.Perm ns->Ordered bb ns'->Q (.ref l) { s with heap:=h',toks:=tk }) :
  wpAny (model X.prog X.w) A (call (.builtin "sorted") [.ref r] [(bG "reverse",.bool bb)]) Q E s:=by
 refine call_function_entry_kw Yh Ye Yg (args_sorted_rev _ _) ?_
 unfold dZ.«sorted»
 refine aJ (m:=WT "sorted" 1 1 _) (aR ?_)
 refine aJ (ael (A:=A.in1) K hh hok hn fun h1 tk acc hk hacc=>?_)
 have hl:acc.toList.length=n:=by rw [qx];exact hacc.1
 have hI:=hP acc.toList hl fun j v e=>hacc.2 j v (by rw [<- qw];exact e)
 refine aJ (Wv ?_ (by rw [hl];exact hn))
 have hoL:(h1.push (wO "list" acc.toList.toArray 0)).get? h1.objs.size=some (wO "list" acc.toList.toArray 0):=eU _ rfl
 refine aJ (oh (wpAny_call_entry_kw X8 ⟨_,hoL,rfl⟩ X7 (list_sort_tree_rev hoL hI (by rw [hl];exact h64) fun out ns' a1 a2 a3=>⟨_,rfl,?_⟩) (args_list_sort_rev _ _)))
 refine aR ⟨_,rfl,?_⟩
 obtain ⟨e,he⟩:=Yc (vs:=acc.toList) (out:=out) hoL
 have hb:∀ b ob,s.heap.get? b=some ob->b<h1.objs.size:=fun b ob e'=>bR (hk b ob e')
 refine h _ tk _ out ns' e (fun b ob e'=>?_) (fun b ob e'=>cM (hb b ob e')) he a1 a2 a3
 have hlt:=hb b ob e'
 rw [Yb (cM hlt) (by rw [Qx];exact Az hlt)]
 exact dX _ (hk b ob e')
theorem acv (hm0:X.mg "sorted" = none) (hl:PE X l td) (m:MI X l "values" apos cpos) (hc:X.calm=true) (hg:Gl X "sorted" := by rfl) :
  PE X (.Call (.Name "sorted" p) [.Call (.Attribute l "values" apos) [] [] cpos] [⟨some "reverse",.Constant (.bool true) j bpos,kp⟩] pos) (aje td):=by
 walk_at "e"
 refine Dw (nG I hg hm0 boot_sorted ?_)
 refine callWith_kw (zX (Wm (T := "dict") (id := "dict.values") m.base rfl m.line Xy aeN PySem.F.type_dict_values (thn (hl pins s σ H _ I h) fun v s1 ⟨x,H1,I1,r1,q1⟩=>?_)))
 obtain ⟨a,kvs,ns,rfl,e,ei,h64,q⟩:=q1
 obtain rfl:v=Value.ref a:=r1
 obtain ⟨t1,t2,hS⟩:=Y7 I1 (.inl ⟨kvs,e⟩)
 refine ⟨t1,t2,?_⟩
 obtain ⟨z,_,vs,rel,dd⟩:=wY I1.hok e
 obtain ⟨ep,dm⟩:=dd.dictAt
 have hlen:=rel.length
 have hns:ns.length=kvs.length:=by have:=congrArg lQ ei;simpa using this.symm
 refine ad6 aeN PySem.F.entry_dict_values rfl (adY ⟨rfl,t1,PySem.F.args_dict_values_1 _,_,meets_dict_values (dj X.prog X.w) a hS,⟨vs,dd⟩,?_⟩)
 refine Er (kws_cons ?_)
 refine afm (kws_nil ?_)
 show wpAny _ _ (call (.builtin "sorted") [.ref s1.heap.objs.size] [(bG "reverse",.bool true)]) _ _ _
 have I2:=I1.kept (h':=s1.heap.push { cls:=.type "dict_values",data:=.fields #[.ref a] }) (t':=s1.toks) fun b ob e=>dX _ e
 refine J8 (X:=X) (ns:=ns) (bb:=true) (PySem.W.kdl_values (knd:=dj X.prog X.w) (kvs:=vs) (ep:=ep)) (I1.ok.hd hc) ⟨⟨_,eU _ rfl,rfl,rfl⟩,dm.push _⟩ (by rw [<- hlen];exact z) tb_g% (fun us hu hv=>?_) fun h' tk l' out ns' e' kp hne hl' hI hp ho=>?_
 ·have vv:=Nf rel hu hv
  rw [ei] at vv
  exact intsAre_of vv
 ·refine ⟨.ref l',_,I2.Gw (t':=tk) kp hne (show dG X.prog X.w _ h' l' (.lst (ns'.map V.int)) from ⟨?_,out.toList,e',oN hI,by simpa using hl'⟩),rfl,q l' ns' (I2.none_of hne) hp ho⟩
  rw [aZ,hp.length_eq,hns];exact z
end
end L2
set_option autoImplicit false
namespace MG
noncomputable abbrev Tab:=List (Int × Int)
noncomputable def look (c:Tab) (k:Int):Option Int:=(c.find? fun p=>decide (p.1=k)).map (·.2)
noncomputable def low (c:Tab) (k:Int):Int:=(look c k).getD 0
noncomputable def put (c:Tab) (k v:Int):Tab :=
 if (c.any fun p=>decide (p.1=k))=true then c.map (fun p=>if p.1=k then (p.1,v) else p) else c++[(k,v)]
noncomputable def keys (c:Tab):List Int:=c.map (·.1)
noncomputable def vals (c:Tab):List Int:=c.map (·.2)
noncomputable def cY (c:Tab) (cut:Int):Tab:=(c.filter fun p=>decide (cut<p.2)).map fun p=>(p.1,p.2-cut)
theorem ag1 (k:Int):look [] k=none:=rfl
theorem iJ (p:Int × Int) (r:Tab) (k:Int):look (p::r) k=if p.1=k then some p.2 else look r k:=by
 unfold look
 rw [zx]
 by_cases h:p.1=k
 ·rw [if_pos h];simp [h]
 ·rw [if_neg h];simp [h]
theorem HD (k:Int):low [] k=0:=rfl
theorem wZ (p:Int × Int) (r:Tab) (k:Int):low (p::r) k=if p.1=k then p.2 else low r k:=by
 unfold low
 rw [iJ]
 by_cases h:p.1=k
 ·rw [if_pos h,if_pos h];rfl
 ·rw [if_neg h,if_neg h]
theorem aaN (c:Tab) (k:Int):(c.any fun p=>decide (p.1=k))=true↔k∈keys c:=by
 unfold keys
 rw [List.any_eq_true]
 constructor
 ·rintro ⟨p,h1,h2⟩
  exact kj.mpr ⟨p,h1,of_decide_eq_true h2⟩
 ·intro h
  obtain ⟨p,h1,h2⟩:=kj.mp h
  exact ⟨p,h1,decide_eq_true h2⟩
theorem rY (c:Tab) (k:Int):look c k=none↔k∉keys c:=by
 induction c with
 | nil=>simp [ag1,keys]
 | cons p r ih =>
  rw [iJ]
  by_cases h:p.1=k
  ·rw [if_pos h];simp [keys,h]
  ·rw [if_neg h,ih];simp [keys];intro _ e;exact h e.symm
theorem pF {c:Tab} {k:Int} (h:k∉keys c):low c k=0:=by
 unfold low;rw [(rY c k).mpr h];rfl
theorem ag2 {c:Tab} {k v:Int} (h:look c k=some v):(k,v)∈c:=by
 induction c with
 | nil=>cases h
 | cons p r ih =>
  rw [iJ] at h
  by_cases e:p.1=k
  ·rw [if_pos e] at h
   cases h
   rw [<- e];exact eN
  ·rw [if_neg e] at h;exact fB _ (ih h)
theorem Uk {c:Tab} (hn:(keys c).Nodup) {p:Int × Int} (h:p∈c):look c p.1=some p.2:=by
 induction c with
 | nil=>cases h
 | cons q r ih =>
  rw [iJ]
  have hn':(q.1::keys r).Nodup:=hn
  rw [g8] at hn'
  rcases cP.mp h with e | e
  ·subst e;rw [if_pos rfl]
  ·have:p.1∈keys r:=kj.mpr ⟨p,e,rfl⟩
   rw [if_neg (fun (z:q.1=p.1)=>hn'.1 (z ▸ this))]
   exact ih hn'.2 e
theorem uG {c:Tab} (h:∀ p∈c,1<=p.2) (k:Int):0<=low c k:=by
 unfold low
 cases e:look c k with
 | none=>exact dY 0
 | some v=>have:=h _ (ag2 e);simp at this ⊢; lia
theorem acw (c:Tab) (k v:Int):keys (c.map fun p=>if p.1=k then (p.1,v) else p)=keys c:=by
 unfold keys
 rw [n8]
 apply Ip
 intro p _
 show (if p.1=k then (p.1,v) else p).1=p.1
 split <;> rfl
theorem Ri {c:Tab} {k v:Int} (h:k∈keys c):put c k v=c.map fun p=>if p.1=k then (p.1,v) else p:=by
 unfold put;rw [if_pos ((aaN c k).mpr h)]
theorem Bo {c:Tab} {k v:Int} (h:k∉keys c):put c k v=c++[(k,v)]:=by
 unfold put;rw [if_neg (fun z=>h ((aaN c k).mp z))]
theorem Ul (c:Tab) (k v:Int):keys (put c k v)=if k∈keys c then keys c else keys c++[k]:=by
 by_cases h:k∈keys c
 ·rw [if_pos h,Ri h,acw]
 ·rw [if_neg h,Bo h];simp [keys]
theorem Bq (c:Tab) (k v j:Int):j∈keys (put c k v)↔j=k\/j∈keys c:=by
 rw [Ul]
 by_cases h:k∈keys c
 ·rw [if_pos h]
  exact ⟨Or.inr,fun z=>z.elim (fun e=>e ▸ h) id⟩
 ·rw [if_neg h,cR,dh]
  exact ⟨fun z=>z.elim Or.inr Or.inl,fun z=>z.elim Or.inr Or.inl⟩
theorem Rj {c:Tab} (hn:(keys c).Nodup) (k v:Int):(keys (put c k v)).Nodup:=by
 rw [Ul]
 by_cases h:k∈keys c
 ·rw [if_pos h];exact hn
 ·rw [if_neg h,zp]
  refine ⟨hn,by simp,?_⟩
  intro a ha b hb e
  rw [dh] at hb
  exact h (by rw [<- hb,<- e];exact ha)
theorem Rm (c:Tab) (k v:Int):(put c k v).length<=c.length+1:=by
 unfold put
 split
 ·rw [aZ];lia
 ·rw [cV];simp
theorem acy (c:Tab) (k v j:Int):look (c.map fun p=>if p.1=k then (p.1,v) else p) j=(look c j).map fun x=>if j=k then v else x:=by
 induction c with
 | nil=>rfl
 | cons p r ih =>
  rw [dW,iJ,iJ,ih]
  by_cases h:p.1=k
  ·rw [if_pos h]
   by_cases e:p.1=j
   ·rw [if_pos e,if_pos e,afw,if_pos (e.symm.trans h)]
   ·rw [if_neg e,if_neg e]
  ·rw [if_neg h]
   by_cases e:p.1=j
   ·rw [if_pos e,if_pos e,afw,if_neg (fun z=>h (e.trans z))]
   ·rw [if_neg e,if_neg e]
theorem acz (c:Tab) (k v j:Int) (h:k∉keys c):look (c++[(k,v)]) j=if j=k then some v else look c j:=by
 induction c with
 | nil =>
  rw [zu,iJ]
  by_cases e:k=j
  ·rw [if_pos e,if_pos e.symm]
  ·rw [if_neg e,if_neg (fun z=>e z.symm)]
 | cons p r ih =>
  have hk:¬ p.1=k:=fun z=>h (by simp [keys,z])
  have hr:k∉keys r:=fun z=>h (fB _ z)
  rw [Oz,iJ,iJ,ih hr]
  by_cases e:p.1=j
  ·rw [if_pos e,if_pos e,if_neg (fun z=>hk (e.trans z))]
  ·rw [if_neg e,if_neg e]
theorem ag3 (c:Tab) (k v j:Int):look (put c k v) j=if j=k then some v else look c j:=by
 by_cases h:k∈keys c
 ·rw [Ri h,acy]
  by_cases e:j=k
  ·subst e
   cases q:look c j with
   | none=>exact absurd h ((rY c j).mp q)
   | some x=>simp
  ·simp only [if_neg e]
   cases look c j <;> rfl
 ·rw [Bo h,acz c k v j h]
theorem Ro (c:Tab) (k v j:Int):low (put c k v) j=if j=k then v else low c j:=by
 unfold low
 rw [ag3]
 split <;> rfl
theorem Rp {c:Tab} (h:∀ p∈c,1<=p.2) {k v:Int} (hv:1<=v):∀ p∈put c k v,1<=p.2:=by
 intro p hp
 unfold put at hp
 split at hp
 ·obtain ⟨q,hq,e⟩:=kj.mp hp
  by_cases z:q.1=k
  ·rw [if_pos z] at e;subst e;exact hv
  ·rw [if_neg z] at e;subst e;exact h q hq
 ·rcases cR.mp hp with z | z
  ·exact h p z
  ·rw [dh] at z;subst z;exact hv
theorem ag4 {c:Tab} (hn:(keys c).Nodup) {k v:Int} (h:k∈keys c):(vals (c.map fun p=>if p.1=k then (p.1,v) else p)).sum=(vals c).sum-low c k+v:=by
 induction c with
 | nil=>cases h
 | cons p r ih =>
  have hn':(p.1::keys r).Nodup:=hn
  rw [g8] at hn'
  rw [wZ]
  by_cases e:p.1=k
  ·have hr:k∉keys r:=e ▸ hn'.1
   have id_r:(r.map fun p=>if p.1=k then (p.1,v) else p)=r:=by
    have:∀ q∈r,(if q.1=k then (q.1,v) else q)=q:=fun q hq=>if_neg (fun (z:q.1=k)=>hr (z ▸ kj.mpr ⟨q,hq,rfl⟩))
    exact (Ip this).trans (adR r)
   rw [dW,if_pos e,if_pos e,id_r]
   simp only [vals,dW,jr];lia
  ·have hr:k∈keys r:=by
    rcases cP.mp h with z | z
    ·exact absurd z.symm e
    ·exact z
   rw [dW,if_neg e,if_neg e]
   have:=ih hn'.2 hr
   simp only [vals,dW,jr] at this ⊢; lia
theorem aaO {c:Tab} (hn:(keys c).Nodup) (k w:Int):(vals (put c k (low c k+w))).sum=(vals c).sum+w:=by
 by_cases h:k∈keys c
 ·rw [Ri h,ag4 hn h];lia
 ·rw [Bo h,pF h]
  simp only [vals,cC,dW,Dt,Ds,jr,adS];lia
theorem uH {c:Tab} {cut k:Int} (h:k∈keys (cY c cut)):k∈keys c:=by
 unfold keys cY at h
 rw [n8] at h
 obtain ⟨p,hp,e⟩:=kj.mp h
 exact kj.mpr ⟨p,(rH.mp hp).1,e⟩
theorem ag5 (c:Tab) (cut:Int):keys (cY c cut)=keys (c.filter fun p=>decide (cut<p.2)):=by
 unfold keys cY;rw [n8];rfl
theorem am6 {c:Tab} (hn:(keys c).Nodup) (cut:Int):(keys (cY c cut)).Nodup:=by
 rw [ag5]
 exact afL (afQ _ List.filter_sublist) hn
theorem ajf (c:Tab) (cut:Int):∀ p∈cY c cut,1<=p.2:=by
 intro p hp
 unfold cY at hp
 obtain ⟨q,hq,e⟩:=kj.mp hp
 have:=of_decide_eq_true (rH.mp hq).2
 subst e
 show 1<=q.2-cut
 lia
theorem ajg (c:Tab) (cut:Int):(cY c cut).length<=c.length:=by
 unfold cY;rw [aZ];exact vX _ _
theorem ag6 {c:Tab} (h:∀ p∈c,1<=p.2):cY c 0=c:=by
 unfold cY
 rw [V4.mpr (fun p hp=>decide_eq_true (by have:=h p hp;lia))]
 have:∀ p∈c,(p.1,p.2-0)=p:=fun p _=>by rw [Int.sub_zero]
 exact (Ip this).trans (adR c)
theorem aaP {c:Tab} (hn:(keys c).Nodup) {cut:Int} (hc:0<=cut) (hp:∀ p∈c,0<=p.2) (k:Int):low (cY c cut) k=if low c k-cut<=0 then 0 else low c k-cut:=by
 induction c with
 | nil=>rw [show cY [] cut=[] from rfl,HD];split <;> lia
 | cons p r ih =>
  have hn':(p.1::keys r).Nodup:=hn
  rw [g8] at hn'
  have ih':=ih hn'.2 (fun q hq=>hp q (fB _ hq))
  by_cases h:cut<p.2
  ·have e:cY (p::r) cut=(p.1,p.2-cut)::cY r cut:=by
    unfold cY;rw [ug,if_pos (decide_eq_true h)];rfl
   rw [e,wZ,wZ,ih']
   by_cases z:p.1=k
   ·rw [if_pos z,if_pos z,if_neg tb_g%]
   ·rw [if_neg z,if_neg z]
  ·have e:cY (p::r) cut=cY r cut:=by
    unfold cY;rw [ug,if_neg (by simp;lia)]
   rw [e,wZ,ih']
   by_cases z:p.1=k
   ·rw [if_pos z,if_pos (show p.2-cut<=0 by lia)]
    have:low r k=0:=pF (z ▸ hn'.1)
    rw [this];split <;> lia
   ·rw [if_neg z]
theorem vD:∀ {d:List Int} {room:Nat} {c:Int},d.Pairwise (· >= ·)->d[room]? = some c->(d.filter fun v=>decide (c<v)).length<=room
 | [],_,_,_,h=>by cases h
 | x::r,0,c,hp,h=>by
  have e:x=c:=by simpa using h
  subst e
  have:((x::r).filter fun v=>decide (x<v))=[]:=by
   rw [Oq]
   intro v hv
   rcases cP.mp hv with z | z
   ·subst z;simp
   ·have:=(lK.mp hp).1 v z
    simp;lia
  rw [this];exact bh _
 | x::r,n+1,c,hp,h=>by
  have ih:=vD (d:=r) (room:=n) (c:=c) (lK.mp hp).2 (by simpa using h)
  rw [ug]
  split
  ·simp only [dH];lia
  ·lia
noncomputable def above (c:Int) (l:List Int):Int:=((l.filter fun v=>decide (c<v)).map fun v=>v-c).sum
theorem Ae (c x:Int) (r:List Int):above c (x::r)=(if c<x then x-c else 0)+above c r:=by
 unfold above
 rw [ug]
 by_cases h:c<x
 ·rw [if_pos (decide_eq_true h),if_pos h];rfl
 ·rw [if_neg (by simp;lia),if_neg h];lia
theorem Nh {c:Int}:∀ {l:List Int},(∀ v∈l,v<=c)->above c l=0
 | [],_=>rfl
 | x::r,h=>by
  rw [Ae,Nh (l:=r) fun v hv=>h v (fB _ hv)]
  have:=h x eN
  rw [if_neg tb_g%];rfl
theorem uI:∀ {l:List Int},(∀ v∈l,0<=v)->0<=l.sum
 | [],_=>dY 0
 | x::r,h=>by
  have:=uI (l:=r) fun v hv=>h v (fB _ hv)
  have:=h x eN
  rw [jr];lia
theorem J9:∀ {d:List Int} {room:Nat} {c:Int},d.Pairwise (· >= ·)->d[room]? = some c->(∀ v∈d,0<=v) ->
  above c d+((room:Int)+1)*c<=d.sum/\(d.length=room+1->above c d+((room:Int)+1)*c=d.sum)
 | [],_,_,_,h,_=>by cases h
 | x::r,0,c,hp,h,h0=>by
  have e:x=c:=by simpa using h
  subst e
  have hr:∀ v∈r,v<=x:=fun v hv=>(lK.mp hp).1 v hv
  have hs:=uI (l:=r) fun v hv=>h0 v (fB _ hv)
  rw [Ae,if_neg tb_g%,Nh hr,jr]
  refine ⟨by simp;lia,fun hl=>?_⟩
  have:r=[]:=by
   have:r.length=0:=by simpa using hl
   exact Gh.mp this
  subst this;simp
 | x::r,n+1,c,hp,h,h0=>by
  have h':r[n]? = some c:=by simpa using h
  have ih:=J9 (d:=r) (room:=n) (c:=c) (lK.mp hp).2 h' fun v hv=>h0 v (fB _ hv)
  have hx:c<=x:=(lK.mp hp).1 c (List.mem_of_getElem? h')
  have hm:((n+1:Nat):Int)=(n:Int)+1:=by lia
  have e2:((((n+1:Nat):Int))+1)*c=((n:Int)+1)*c+c:=by rw [hm,Qo ((n:Int)+1) 1 c,JC]
  rw [Ae,jr,e2]
  have ex:(if c<x then x-c else 0)=x-c:=by split <;> lia
  rw [ex]
  refine ⟨by have:=ih.1;lia,fun hl=>?_⟩
  have:=ih.2 (by simpa using hl)
  lia
theorem Um (c:Tab) (cut:Int):vals (cY c cut)=(((vals c).filter fun v=>decide (cut<v)).map fun v=>v-cut):=by
 induction c with
 | nil=>rfl
 | cons p r ih =>
  have hv:vals (p::r)=p.2::vals r:=rfl
  rw [hv]
  by_cases h:cut<p.2
  ·have e:cY (p::r) cut=(p.1,p.2-cut)::cY r cut:=by
    unfold cY;rw [ug,if_pos (decide_eq_true h)];rfl
   rw [e,ug,if_pos (decide_eq_true h),dW,<- ih];rfl
  ·have e:cY (p::r) cut=cY r cut:=by
    unfold cY;rw [ug,if_neg (by simp;lia)]
   rw [e,ug,if_neg (by simp;lia),ih]
theorem ajh (c:Tab) (cut:Int):(vals (cY c cut)).sum=above cut (vals c):=by rw [Um];rfl
theorem Uo {l l':List Int} (h:l.Perm l'):l.sum=l'.sum:=by
 induction h with
 | nil=>rfl
 | cons x _ ih=>rw [jr,jr,ih]
 | swap x y l=>simp only [jr];lia
 | trans _ _ a b=>exact a.trans b
theorem Zc {c:Int} {l l':List Int} (h:l.Perm l'):above c l=above c l':=by
 unfold above;exact Uo ((h.filter _).map _)
structure IsCut (room:Nat) (c:Tab) (cut:Int):Prop where
 ex:∃ d:List Int,d.Perm (vals c)/\d.Pairwise (· >= ·)/\d[room]? = some cut
theorem IsCut.mem {room:Nat} {c:Tab} {cut:Int} (h:IsCut room c cut):cut∈vals c:=by
 obtain ⟨d,h1,_,h3⟩:=h
 exact h1.mem_iff.mp (List.mem_of_getElem? h3)
theorem IsCut.len {room:Nat} {c:Tab} {cut:Int} (h:IsCut room c cut):(cY c cut).length<=room:=by
 obtain ⟨d,h1,h2,h3⟩:=h
 have e:(cY c cut).length=((vals c).filter fun v=>decide (cut<v)).length:=by
  have:=congrArg lQ (Um c cut)
  rw [aZ] at this
  rw [<- this];unfold vals;rw [aZ]
 rw [e,<- (h1.filter _).length_eq]
 exact vD h2 h3
theorem IsCut.sum {room:Nat} {c:Tab} {cut:Int} (h:IsCut room c cut) (h0:∀ p∈c,0<=p.2) :
  (vals (cY c cut)).sum+((room:Int)+1)*cut<=(vals c).sum/\(c.length=room+1->(vals (cY c cut)).sum+((room:Int)+1)*cut=(vals c).sum):=by
 obtain ⟨d,h1,h2,h3⟩:=h
 rw [ajh,<- Zc h1,<- Uo h1]
 have hd:∀ v∈d,0<=v:=fun v hv=>by
  obtain ⟨p,hp,e⟩:=kj.mp (h1.mem_iff.mp hv)
  rw [<- e];exact h0 p hp
 have:=J9 h2 h3 hd
 refine ⟨this.1,fun hl=>this.2 ?_⟩
 rw [h1.length_eq];unfold vals;rw [aZ];exact hl
theorem Rq:∀ {l l':List Int},l.Perm l'->l.Pairwise (· >= ·)->l'.Pairwise (· >= ·)->l=l':=by
 intro l
 induction l with
 | nil=>intro l' h _ _;exact h.nil_eq
 | cons x r ih =>
  intro l' h hp hp'
  cases l' with
  | nil=>exact absurd h.symm (by simp)
  | cons y r' =>
   have hx:x∈y::r':=h.mem_iff.mp eN
   have hy:y∈x::r:=h.mem_iff.mpr eN
   have e:x=y:=by
    rcases cP.mp hx with z | z
    ·exact z
    ·rcases cP.mp hy with z' | z'
     ·exact z'.symm
     ·have a:=(lK.mp hp').1 x z
      have b:=(lK.mp hp).1 y z'
      lia
   subst e
   rw [ih h.cons_inv (lK.mp hp).2 (lK.mp hp').2]
theorem IsCut.uniq {room:Nat} {c:Tab} {x y:Int} (hx:IsCut room c x) (hy:IsCut room c y):x=y:=by
 obtain ⟨d,h1,h2,h3⟩:=hx
 obtain ⟨d',h1',h2',h3'⟩:=hy
 have e:=Rq (h1.trans h1'.symm) h2 h2'
 subst e
 rw [h3] at h3'
 exact bW h3'
noncomputable def gj (room:Nat) (c:Tab) (c':Tab) (cut:Int):Prop :=
 if c.length<=room then cut=0/\c'=c else IsCut room c cut/\c'=cY c cut
theorem gj.uniq {room:Nat} {c a b:Tab} {x y:Int} (h:gj room c a x) (h':gj room c b y):a=b/\x=y:=by
 unfold gj at h h'
 by_cases e:c.length<=room
 ·rw [if_pos e] at h h'
  exact ⟨h.2.trans h'.2.symm,h.1.trans h'.1.symm⟩
 ·rw [if_neg e] at h h'
  have z:=h.1.uniq h'.1
  subst z
  exact ⟨h.2.trans h'.2.symm,rfl⟩
structure Ok (room:Nat) (c:Tab) (total lost:Int) (tw:Int->Int):Prop where
 nd:(keys c).Nodup
 pos:∀ p∈c,1<=p.2
 len:c.length<=room
 l0:0<=lost
 sum:(vals c).sum+((room:Int)+1)*lost<=total
 lo:∀ k,low c k<=tw k
 hi:∀ k,tw k<=low c k+lost
structure Pre (room:Nat) (c:Tab) (total lost:Int) (tw:Int->Int):Prop where
 nd:(keys c).Nodup
 pos:∀ p∈c,1<=p.2
 l0:0<=lost
 sum:(vals c).sum+((room:Int)+1)*lost<=total
 lo:∀ k,low c k<=tw k
 hi:∀ k,tw k<=low c k+lost
theorem gj.nn {room:Nat} {c c':Tab} {cut:Int} (f:gj room c c' cut) (hp:∀ p∈c,1<=p.2):0<=cut:=by
 unfold gj at f
 by_cases e:c.length<=room
 ·rw [if_pos e] at f;lia
 ·rw [if_neg e] at f
  obtain ⟨p,hp',e'⟩:=kj.mp f.1.mem
  have:=hp p hp'
  lia
theorem Pre.fit {room:Nat} {c c':Tab} {total lost cut:Int} {tw:Int->Int} (h:Pre room c total lost tw) (f:gj room c c' cut):Ok room c' total (lost+cut) tw:=by
 have hc:=f.nn h.pos
 unfold gj at f
 by_cases e:c.length<=room
 ·rw [if_pos e] at f
  obtain ⟨rfl,rfl⟩:=f
  refine ⟨h.nd,h.pos,e,by have:=h.l0;lia,by rw [XF];exact h.sum,h.lo,fun k=>by have:=h.hi k;lia⟩
 ·rw [if_neg e] at f
  obtain ⟨f,rfl⟩:=f
  have hs:=(f.sum fun p hp=>by have:=h.pos p hp;lia).1
  have h0:∀ p∈c,0<=p.2:=fun p hp=>by have:=h.pos p hp;lia
  refine ⟨am6 h.nd _,ajf _ _,f.len,by have:=h.l0;lia,?_,fun k=>?_,fun k=>?_⟩
  ·rw [XH];have:=h.sum;lia
  ·rw [aaP h.nd hc h0 k]
   have:=h.lo k;have:=uG h.pos k;split <;> lia
  ·rw [aaP h.nd hc h0 k]
   have:=h.hi k;split <;> lia
theorem Ok.pre {room:Nat} {c:Tab} {total lost:Int} {tw:Int->Int} (h:Ok room c total lost tw):Pre room c total lost tw:=⟨h.nd,h.pos,h.l0,h.sum,h.lo,h.hi⟩
theorem Ok.add {room:Nat} {c:Tab} {total lost k w:Int} {tw:Int->Int} (h:Ok room c total lost tw) (hw:1<=w) :
  Pre room (put c k (low c k+w)) (total+w) lost (fun j=>if j=k then tw j+w else tw j):=by
 refine ⟨Rj h.nd _ _,Rp h.pos (by have:=uG h.pos k;lia),h.l0,by rw [aaO h.nd];have:=h.sum;lia,fun j=>?_,fun j=>?_⟩
 ·rw [Ro]
  have:=h.lo j
  by_cases e:j=k
  ·subst e;rw [if_pos rfl,if_pos rfl];lia
  ·rw [if_neg e,if_neg e];exact this
 ·rw [Ro]
  have:=h.hi j
  by_cases e:j=k
  ·subst e;rw [if_pos rfl,if_pos rfl];lia
  ·rw [if_neg e,if_neg e];exact this
noncomputable def mV (c d:Tab):Tab:=d.foldl (fun acc p=>put acc p.1 (low acc p.1+p.2)) c
theorem xg (c:Tab):mV c []=c:=rfl
theorem lZ (c:Tab) (p:Int × Int) (d:Tab):mV c (p::d)=mV (put c p.1 (low c p.1+p.2)) d:=rfl
theorem acA (c d:Tab) (p:Int × Int):mV c (d++[p])=put (mV c d) p.1 (low (mV c d) p.1+p.2):=by
 unfold mV;rw [adG];rfl
theorem Rr:∀ (d:Tab) {c:Tab},(keys c).Nodup->(keys (mV c d)).Nodup
 | [],_,h=>h
 | p::d,c,h=>by rw [lZ];exact Rr d (Rj h _ _)
theorem Ka:∀ (d:Tab) {c:Tab},(∀ p∈c,1<=p.2)->(∀ p∈d,1<=p.2)->∀ p∈mV c d,1<=p.2
 | [],_,h,_=>h
 | q::d,c,h,hd=>by
  rw [lZ]
  refine Ka d (Rp h ?_) fun p hp=>hd p (fB _ hp)
  have:=uG h q.1;have:=hd q eN;lia
theorem xq:∀ (d c:Tab),(mV c d).length<=c.length+d.length
 | [],c=>by rw [xg];simp
 | p::d,c=>by
  rw [lZ]
  have:=xq d (put c p.1 (low c p.1+p.2));have:=Rm c p.1 (low c p.1+p.2)
  simp only [dH];lia
theorem Kc:∀ (d:Tab) (c:Tab) (k:Int),(keys d).Nodup->low (mV c d) k=low c k+low d k
 | [],c,k,_=>by rw [xg,HD];lia
 | p::d,c,k,h=>by
  have h':(p.1::keys d).Nodup:=h
  rw [g8] at h'
  rw [lZ,Kc d _ k h'.2,Ro,wZ]
  by_cases e:k=p.1
  ·rw [if_pos e,if_pos e.symm,e,pF h'.1];lia
  ·rw [if_neg e,if_neg (fun z=>e z.symm)]
theorem Ni:∀ (d:Tab) {c:Tab},(keys c).Nodup->(vals (mV c d)).sum=(vals c).sum+(vals d).sum
 | [],c,_=>by rw [xg];simp [vals]
 | p::d,c,h=>by
  rw [lZ,Ni d (Rj h _ _),aaO h]
  simp only [vals,dW,jr];lia
theorem Nj:∀ (d c:Tab) (k:Int),k∈keys (mV c d)↔k∈keys c\/k∈keys d
 | [],c,k=>by rw [xg];simp [keys]
 | p::d,c,k=>by
  rw [lZ,Nj d,Bq]
  have e:keys (p::d)=p.1::keys d:=rfl
  rw [e,cP]
  constructor
  ·rintro ((h | h) | h)
   ·exact .inr (.inl h)
   ·exact .inl h
   ·exact .inr (.inr h)
  ·rintro (h | h | h)
   ·exact .inl (.inr h)
   ·exact .inl (.inl h)
   ·exact .inr h
theorem Ok.Af {room:Nat} {c d:Tab} {t l t' l':Int} {tw tw':Int->Int} (h:Ok room c t l tw) (h':Ok room d t' l' tw') :
  Pre room (mV c d) (t+t') (l+l') (fun k=>tw k+tw' k):=by
 refine ⟨Rr d h.nd,Ka d h.pos h'.pos,by have:=h.l0;have:=h'.l0;lia,?_,fun k=>?_,fun k=>?_⟩
 ·rw [Ni d h.nd,XH];have:=h.sum;have:=h'.sum;lia
 ·rw [Kc d c k h'.nd];have:=h.lo k;have:=h'.lo k;lia
 ·rw [Kc d c k h'.nd];have:=h.hi k;have:=h'.hi k;lia
theorem Ok.empty (room:Nat):Ok room [] 0 0 (fun _=>0) :=
 ⟨oR,(fun _ h=>by cases h),dF _,dY 0,by simp [vals],fun k=>by rw [HD];exact dY 0,fun k=>by rw [HD];exact dY 0⟩
end MG
set_option autoImplicit false
namespace MK
noncomputable def LC (r:Int) (h:Nat):Prop:=∃ m:Int,r=m*2 ^ h/\m % 2=1
theorem jH (n:Nat):(0:Int)<2 ^ n:=Eo (by decide)
theorem LC.uniq {r:Int} {h k:Nat} (a:LC r h) (b:LC r k):h=k:=by
 have key:∀ {h k:Nat} {m n:Int},h<k->m*2 ^ h=n*2 ^ k->m % 2=1->False:=by
  intro h k m n hlt e hm
  obtain ⟨d,rfl⟩:∃ d,k=h+(d+1):=⟨k-h-1,by lia⟩
  rw [Qp,<- zV,aeU] at e
  have e2:=Int.eq_of_mul_eq_mul_right (ae0 (jH h)) e
  rw [lM,<- zV] at e2
  lia
 obtain ⟨m,e1,h1⟩:=a
 obtain ⟨n,e2,h2⟩:=b
 rcases Xl h k with l | l | l
 ·exact (key l (e1.symm.trans e2) h1).elim
 ·exact l
 ·exact (key l (e2.symm.trans e1) h2).elim
noncomputable def To (r x:Int) (i:Nat):Prop:=r=x*2 ^ i/\x≠0
theorem To.step {r x:Int} {i:Nat} (h:To r x i) (e:x % 2=0):To r (x / 2) (i+1):=by
 obtain ⟨h1,h2⟩:=h
 have hx:x=x / 2*2:=by lia
 refine ⟨?_,by lia⟩
 rw [h1,lM,Qn (2 ^ i) 2,<- zV,<- hx]
theorem To.stop {r x:Int} {i:Nat} (h:To r x i) (e:¬ x % 2=0):LC r i:=⟨x,h.1,by lia⟩
noncomputable def M:Int:=1152921504606846976
theorem akz:(2:Int) ^ 60=1152921504606846976:=by decide
theorem LC.ne {r:Int} {h:Nat} (a:LC r h):r≠0:=by
 obtain ⟨m,e,hm⟩:=a
 intro z
 rw [z] at e
 rcases Int.mul_eq_zero.mp e.symm with q | q
 ·lia
 ·exact absurd q (ae0 (jH h))
theorem LC.lt {r:Int} {h:Nat} (a:LC r h) (h0:0<=r) (h1:r<1152921504606846976):h<60:=by
 obtain ⟨m,e,hm⟩:=a
 rcases ig h 60 with q | q
 ·exact q
 ·obtain ⟨d,rfl⟩:∃ d,h=60+d:=⟨h-60,by lia⟩
  exfalso
  rw [Qp,akz] at e
  have hd:=jH d
  rcases ae1 m 0 with l | l
  ·have:m*(1152921504606846976*2 ^ d)<0:=aeS l tb_g%
   lia
  ·have h3:1*(1152921504606846976*1)<=m*(1152921504606846976*2 ^ d):=aeY tb_g% tb_g% tb_g% tb_g%
   lia
theorem To.lt {r x:Int} {i:Nat} (h:To r x i) (h0:0<r) (h1:r<1152921504606846976):i<60/\0<x/\x<=r:=by
 obtain ⟨e,hx⟩:=h
 have hp:=jH i
 have x0:0<x:=by
  rcases ae1 x 0 with l | l
  ·have:x*2 ^ i<0:=aeS l hp
   lia
  ·lia
 refine ⟨?_,x0,?_⟩
 ·rcases ig i 60 with q | q
  ·exact q
  ·obtain ⟨d,rfl⟩:∃ d,i=60+d:=⟨i-60,by lia⟩
   exfalso
   rw [Qp,akz] at e
   have hd:=jH d
   have h3:1*(1152921504606846976*1)<=x*(1152921504606846976*2 ^ d):=aeY tb_g% tb_g% tb_g% tb_g%
   lia
 ·have h3:x*1<=x*2 ^ i:=Qm tb_g% tb_g%
  lia
end MK
set_option autoImplicit true
namespace L2
open PySem MG
noncomputable def emb (c:Tab):List (Key × V):=c.map fun p=>((Sum.inl p.1:Key),V.int p.2)
theorem uJ (c:Tab):(emb c).length=c.length:=aZ _
theorem ag7 (c:Tab):(emb c).map (·.2)=(vals c).map V.int:=by
 unfold emb vals;rw [n8,n8];rfl
theorem ag8 (c:Tab):((emb c).map fun p=>kV p.1)=(keys c).map V.int:=by
 unfold emb keys;rw [n8,n8];rfl
theorem ag9 {c:Tab} {i:Nat} {p:Key × V} (h:(emb c)[i]? = some p):∃ q,c[i]? = some q/\p=(Sum.inl q.1,V.int q.2):=by
 unfold emb at h
 rw [gZ] at h
 cases e:c[i]? with
 | none=>rw [e] at h;cases h
 | some q=>rw [e] at h;exact ⟨q,rfl,(bW h).symm⟩
theorem HF {a b:Int}:((Sum.inl a:Key)=Sum.inl b)↔a=b:=⟨fun h=>afU h,fun h=>by rw [h]⟩
theorem Uq (c:Tab) (k:Int):Ac (emb c) (Sum.inl k:Key)=(look c k).map V.int:=by
 induction c with
 | nil=>rfl
 | cons p r ih =>
  have e:emb (p::r)=(Sum.inl p.1,V.int p.2)::emb r:=rfl
  rw [e,iJ]
  by_cases h:p.1=k
  ·rw [Bk (p:=((Sum.inl p.1:Key),V.int p.2)) (HF.mpr h),if_pos h];rfl
  ·rw [Bm (p:=((Sum.inl p.1:Key),V.int p.2)) (fun z=>h (HF.mp z)),if_neg h,ih]
theorem aaQ (c:Tab) (k:Int):(Ac (emb c) (Sum.inl k:Key)).getD (.int 0) = .int (low c k):=by
 rw [Uq];unfold low
 cases look c k <;> rfl
theorem aha {c:Tab} {k v:Int} (h:look c k=some v):Ac (emb c) (Sum.inl k:Key)=some (.int v):=by rw [Uq,h];rfl
theorem aji (c:Tab) (k:Int):((emb c).any fun kv=>decide (kv.1=(Sum.inl k:Key)))=c.any fun p=>decide (p.1=k):=by
 induction c with
 | nil=>rfl
 | cons p r ih =>
  have e:emb (p::r)=(Sum.inl p.1,V.int p.2)::emb r:=rfl
  rw [e,zy,zy,ih]
  congr 1
  by_cases h:p.1=k
  ·rw [decide_eq_true h,decide_eq_true (HF.mpr h)]
  ·rw [decide_eq_false h,decide_eq_false (fun z=>h (HF.mp z))]
theorem Kd (c:Tab) (k v:Int):putK (emb c) (Sum.inl k:Key) (.int v)=emb (put c k v):=by
 unfold putK put
 rw [aji]
 by_cases h:(c.any fun p=>decide (p.1=k))=true
 ·rw [if_pos h,if_pos h]
  unfold emb
  rw [n8,n8]
  apply Ip
  intro p _
  by_cases e:p.1=k
  ·simp [e]
  ·simp [e]
 ·rw [if_neg h,if_neg h]
  unfold emb
  rw [cC];rfl
noncomputable def But (p:Addr) (H H':Hp):Prop:=∀ b o,H b=some o->b≠p->H' b=some o
theorem Same.but {H H':Hp} (h:Same H H') (p:Addr):But p H H':=fun b o e _=>h b o e
theorem But.trans {p:Addr} {H H1 H2:Hp} (a:But p H H1) (b:But p H1 H2):But p H H2:=fun c o h n=>b c o (a c o h n) n
theorem But.upd {p:Addr} {H:Hp} {o:HO}:But p H (upd H p o):=fun b u h n=>by rw [aA n];exact h
theorem Same.new {H:Hp} {p:Addr} {o:HO} (h:H p=none):Same H (upd H p o):=fun b u e=>by rw [aA (aq e h)];exact e
section
variable {K:aW} {H:Hp} {Q:VK}
theorem rdF {a C dx:Addr} {fs:List (Str × V)} {f:Str} {v:V} (h:H a=some (.ins C dx fs)) (c:Cls K C) (n:cA K C f) (l:fs.lookup f=some v) (q:Q v H):rFld K f (.ref a) H Q:=⟨a,C,dx,fs,v,rfl,h,c,n,l,q⟩
theorem lO {a:Addr} {xs:List V} {i:Int} {v:V} (h:SqL K H a xs) (e:atI xs i=some v) (q:Q v H):Rh K (.ref a) (.int i) H Q:=.inl ⟨a,xs,i,v,rfl,rfl,h,e,q⟩
theorem gB {a:Addr} {xs:List V} {i:Int} {v:V} (h:SqT K H a xs) (e:atI xs i=some v) (q:Q v H):Rh K (.ref a) (.int i) H Q:=.inr (.inl ⟨a,xs,i,v,rfl,rfl,h,e,q⟩)
theorem rdIxD {a:Addr} {kvs:List (Key × V)} {i:Int} {v:V} (h:Rd H a (.dK kvs)) (e:Ac kvs (Sum.inl i:Key)=some v) (q:Q v H):Rh K (.ref a) (.int i) H Q :=
 .inr (.inr ⟨a,v,rfl,.inl ⟨kvs,Sum.inl i,h,rfl,e.symm⟩,q⟩)
theorem jw {a:Addr} {xs:List V} (h:SqL K H a xs) (q:Q (.int xs.length) H):aaK K [.ref a] H Q:=.inl ⟨.ref a,xs.length,rfl,.inl ⟨xs,h,rfl⟩,q⟩
theorem am7 {a:Addr} {kvs:List (Key × V)} (h:Rd H a (.dK kvs)) (q:Q (.int kvs.length) H):aaK K [.ref a] H Q:=.inr ⟨a,kvs,rfl,h,q⟩
theorem akA {a:Addr} {kvs:List (Key × V)} {i:Int} (h:Rd H a (.dK kvs)):Rg H a (.int i) (Ac kvs (Sum.inl i:Key)):=.inl ⟨kvs,Sum.inl i,h,rfl,rfl⟩
theorem Zd {a:Addr} {kvs:List (Key × V)} {i:Int} {v:V} {R:Hp->Prop} (h:H a=some (.dK kvs)) (hl:kvs.length<sizeLine) (q:R (upd H a (.dK (putK kvs (Sum.inl i) v)))):aky (.ref a) (.int i) v H R :=
 .inr ⟨a,_,rfl,.inl ⟨kvs,Sum.inl i,h,rfl,hl,rfl⟩,q⟩
theorem am8 {i:Int} {T:String} {b:Bool} (e:oZ K (.type "int") (.type T)=some b) (q:Q (.bl b) H):rIsi K [.int i,.ty T] H Q :=
 ⟨_,_,_,_,b,rfl,rfl,fun _ h=>h,.int i,e,q⟩
theorem am9 {a C D:Addr} {b:Bool} (t:Aa K H (.ref a) (.ref C)) (e:oZ K (.ref C) (.ref D)=some b) (q:Q (.bl b) H):rIsi K [.ref a,.ref D] H Q :=
 ⟨_,_,_,_,b,rfl,rfl,fun _ h=>h,t,e,q⟩
end
theorem Ur (K:aW) (t:Value) (h:(t == t)=true):oZ K t t=some true:=by unfold oZ;rw [if_pos h]
theorem ana {K:aW} {a b:String} {r:Bool} (h1:(Value.type a == Value.type b)=false) (h2:aes b=true) (h3:(ad7 a).map (·.contains (Value.type b))=some r) :
  oZ K (.type a) (.type b)=some r:=by
 unfold oZ Qd
 rw [if_neg (by rw [h1];exact gO)]
 show (if aes b=true then PySem.W.subIn K (.type a) (.type b) else none)=some r
 rw [if_pos h2]
 exact h3
theorem Rt {i j:Int} (h0:-(2 ^ 64)<i) (h1:i<2 ^ 64):agG i j:=.inl ⟨by lia,by lia⟩
theorem iV {i j:Int} (h0:-(2 ^ 64)<j) (h1:j<2 ^ 64):agG i j:=.inr ⟨by lia,by lia⟩
end L2
namespace L2
open PySem PySem.Spec PyProof.Rows
noncomputable def Ke (cells:List (Str × Addr)):List (Str × Addr)->Prop
 | []=>True
 | p::r=>cells.lookup p.1=some p.2/\Ke cells r
theorem Ke.of {cells:List (Str × Addr)}:∀ {cl:List (Str × Addr)} {y:Str} {c:Addr},Ke cells cl->cl.lookup y=some c->cells.lookup y=some c
 | [],_,_,_,h=>by cases h
 | p::r,y,c,hs,h=>by
  obtain ⟨n,a⟩:=p
  rw [Wc] at h
  by_cases e:y=n
  ·subst e
   rw [beq_self_eq_true] at h
   cases h
   exact hs.1
  ·rw [beq_eq_false_iff_ne.mpr e] at h
   exact Ke.of hs.2 h
@[reducible] noncomputable def dD (X:Cx) (N:List Str) (scope:Scope) (cl:List (Str × Addr)) (s:Shared) (H:Hp) (fp:List Addr) (C:Addr):Cx where
 prog:=X.prog
 w:=X.w
 K:=X.K
 mg:=X.mg
 base:=X.base
 A:=X.A
 N:=N
 s₀:=s
 H₀:=H
 env:=Pu scope cl C X.env
 outer:=X.stack
 stack:=X.stack
 ex:=fp
 fn:=fun _=>false
 calm:=X.calm
 pn:=[]
 xe:=fun _ _=>False
structure Br (X:Cx) (N:List Str) (scope:Scope) (cl:List (Str × Addr)) (i j:Nat):Prop where
 ok:∃ y c,N[i]? = some y/\X.N[j]? = some y/\(X.env.kindOf y=some .cell\/X.env.kindOf y=some .free)/\((gC scope X.env).names.lookup y=some .cell\/(gC scope X.env).names.lookup y=some .free)/\cl.lookup y=some c
noncomputable def mj (σ:St) (x:Option V) (caps:List Nat):St:=x::caps.map fun j=>(σ[j]?).join
section
variable {X:Cx} {pins:List (Addr × Obj)} {σ:St} {H:Hp} {s:Shared}
theorem Inv.comp {N:List Str} {scope:Scope} {cl:List (Str × Addr)} {fp:List Addr} {caps:List Nat} {h4:Heap} {D C:Addr} {tk:Nat} (I:Inv X pins σ H s) (hkind:scope.kind = .function) (hsub:Ke X.env.cells cl)
  (hhas:∀ y,((gC scope X.env).names.lookup y=some .cell\/(gC scope X.env).names.lookup y=some .free)->∃ c,cl.lookup y=some c) (hf:∀ b∈fp,yL X pins H b) (hfo:∀ b∈fp,∃ o,s.heap.get? b=some o)
  (hlen:N.length=caps.length+1) (hcap:∀ (i:Nat) (j:Nat),caps[i]? = some j->Br X N scope cl (i+1) j) (hD:s.heap.objs.size<=D) (hC:s.heap.objs.size<=C) (hDC:C≠D)
  (hk:∀ b o,s.heap.get? b=some o->h4.get? b=some o) (hlist:∃ n,h4.get? D=some { cls:=.type "list",data:=.seq #[] n }) (hns:∃ m,h4.Ns C m) :
  Inv (dD X N scope cl s H fp C) (X.pn++pins) (mj σ none caps) (upd H D (.lst [])) { s with heap:=h4,toks:=tk }:=by
 have hnD:H D=none:=I.hok.fresh hD
 have hnC:H C=none:=I.hok.fresh hC
 have lt:∀ b o,s.heap.get? b=some o->b≠D/\b≠C:=fun b o e=>⟨cM (gk (bR e) hD),cM (gk (bR e) hC)⟩
 have nst:∀ b,b≠X.env.locals->b∉X.fs->b∉frs X.stack:=fun b h1 h2 z=>by
  rcases cP.mp (I.wU b z) with e | e
  ·exact h1 e
  ·exact h2 e
 refine ⟨⟨I.ok.mod,hkind,I.ok.glob,I.ok.blt,hC,fun x y c h1 h2=>I.ok.inj x y c (hsub.of h1) (hsub.of h2),fun y hy=>hhas y hy,fun y c h=>(nomatch h),I.ok.hd,I.ok.frames,.inl rfl,fun b hb=>?_,I.bs,gM I.ok.bsz I.sz,fun b o e hb=>?_,fun b hb=>?_,I.stack,I.yj⟩,
  rfl,I.bare,Un.laid hk hD hnD,?_,fun y c e=>?_,?_,fun y c e=>?_,fun p hp=>?_,?_,?_⟩
 ·obtain ⟨o,e⟩:=hfo b hb
  exact ⟨(lt b o e).2,fun x c q=>(hf b hb).2.2.2.2.1 x c (hsub.of q)⟩
 ·rcases (hf b hb).2.2.2.1 with z | z
  ·exact I.ok.TY b o e z
  ·exact absurd (gk (bR e) I.ok.bsz) (Xr.mpr z)
 ·exact nst b (hf b hb).2.1 (hf b hb).2.2.1
 ·obtain ⟨m,hm⟩:=hns
  obtain ⟨m0,_,hl⟩:=I.loc
  refine ⟨m,hm,fun i y v h1 h2 h3=>?_⟩
  cases i with
  | zero=>cases h2
  | succ i =>
   have h2':((caps.map fun j=>(σ[j]?).join)[i]?)=some (some v):=h2
   rw [gZ] at h2'
   cases ec:caps[i]? with
   | none=>rw [ec] at h2';cases h2'
   | some j =>
    rw [ec] at h2'
    have Rv:(σ[j]?).join=some v:=bW h2'
    have e2:σ[j]? = some (some v):=by
     cases q:σ[j]? with
     | none=>rw [q] at Rv;cases Rv
     | some z=>rw [q] at Rv;exact congrArg some Rv
    obtain ⟨y',c,n1,n2,k1,k2,lc⟩:=(hcap i j ec).ok
    have ey:y=y':=by
     have h1':N[i+1]? = some y:=h1
     rw [n1] at h1';exact (bW h1').symm
    subst ey
    have vis:Vis X.env.scope y:=k1.elim (fun z=>.inr (.inl z)) fun z=>.inr (.inr z)
    obtain ⟨u,ru,lk⟩:=hl j y v n2 e2 vis
    refine ⟨u,ru,.inr ⟨k2,c,lc,?_⟩⟩
    rcases lk with ⟨z,_⟩ | ⟨_,c',lc',ic⟩
    ·rcases k1 with k1 | k1 <;> (rw [z] at k1;cases k1)
    ·rw [hsub.of lc] at lc'
     cases lc'
     obtain ⟨o,ho,hd⟩:=ic
     exact ⟨o,hk c o ho,hd⟩
 ·obtain ⟨v,o,ho,hd⟩:=I.cell y c (hsub.of e)
  exact ⟨v,o,hk c o ho,hd⟩
 ·show (upd H D (.lst [])) C=none
  rw [aA hDC];exact hnC
 ·have n:=I.oA y c (hsub.of e)
  obtain ⟨v,o,ho,hd⟩:=I.cell y c (hsub.of e)
  rw [aA (lt c o ho).1];exact n
 ·have hp':p∈X.pn++pins:=hp
  obtain ⟨e,n,ne,nf,d⟩:=I.pin p hp'
  exact ⟨hk _ _ e,by rw [aA (lt _ _ e).1];exact n,(lt _ _ e).2,nst _ ne nf,d⟩
 ·obtain ⟨n,e⟩:=hlist
  exact I.hok.laid hk hD ⟨dF _,[],n,.nil,e⟩
 ·show (mj σ none caps).length=N.length
  unfold mj
  rw [dH,aZ,hlen]
theorem Inv.Ze {N:List Str} {scope:Scope} {cl:List (Str × Addr)} {fp:List Addr} {C:Addr} {aay:List (Addr × Obj)} {σ':St} {H':Hp} {s':Shared} {h':Heap} (I:Inv X pins σ H s) (hf:∀ b∈fp,yL X pins H b) (hC:s.heap.objs.size<=C)
  (I':Inv (dD X N scope cl s H fp C) aay σ' H' s') (hs:wG C s'.heap h'):Inv X pins σ H' { s' with heap:=h' }:=by
 obtain ⟨hp,g,d,t,os⟩:=s'
 have eo:os=s.os:=I'.os
 subst eo
 have ne:∀ b o,s.heap.get? b=some o->b≠C:=fun b o e=>cM (gk (bR e) hC)
 have hn:H' C=none:=I'.free
 have B:Un (frs X.stack) fp H H' s.heap hp:=I'.base
 have kp:∀ b o,b≠C->hp.get? b=some o->h'.get? b=some o:=fun b o hb e=>(hs.2 b hb).trans e
 suffices r:Inv X pins σ H' { s with heap:=h',gens:=g,drawn:=d,toks:=t } from r
 refine I.call (h':=h') (g':=g) (d':=d) (t':=t) (ch:=fp) ⟨fun b o e n h1 h2=>kp b o (ne b o e) (B.keep b o e n h1 h2),fun b o e n h1 h2=>?_,B.free,fun b o e h2=>?_,B.tups,B.vP,B.zZ⟩ (fun b u e=>?_) I'.bare fun b hb=>?_
 ·obtain ⟨sl,q⟩:=B.slot b o e n h1 h2
  exact ⟨sl,kp b _ (ne b o e) q⟩
 ·obtain ⟨o',q⟩:=B.there b o e h2
  exact ⟨o',kp b _ (ne b o e) q⟩
 ·have nb:∀ c v,H' c=some v->c≠C:=fun c v q z=>by rw [z,hn] at q;cases q
  refine (I'.hok b u e).stay (fun c v hc q=>kp c v ?_ q) (fun _ q=>q) fun _ _ q=>q
  rcases hc with z | z
  ·rw [z];exact nb b u e
  ·exact nb c _ z
 ·obtain ⟨f0,f1,f2,f3,f4,f5⟩:=hf b hb
  exact ⟨f3,f1,f4,f5⟩
end
noncomputable def Bs (J:It) (caps:List Nat) (tt:TT) (te:TE) (σ:St) (D:Addr) (Q:VK) (H1:Hp):Prop:=∃ W:Nat->Nat->List V->Hp->Prop,(∃ m,W 0 m [] (upd H1 D (.lst [])))/\∀ i m ys H,W i m ys H ->
 H D=some (.lst ys)/\((J.stop i H/\Q (.ref D) H)\/(J.go i H/\ys.length<sizeLine/\∀ x H',J.yld i H x H'->tt (mj σ (some x) caps) H' fun b H2=>if b=true then
  te (mj σ (some x) caps) H2 fun y H3=>H3 D=some (.lst ys)/\∃ m',m'<m/\W (i+1) m' (ys++[y]) (upd H3 D (.lst (ys++[y])))
  else H2 D=some (.lst ys)/\∃ m',m'<m/\W (i+1) m' ys H2))
noncomputable def akB (wi:TI) (caps:List Nat) (tt:TT) (te:TE):TE:=fun σ H Q=>wi σ H fun J H1=>∀ D,H1 D=none->Bs J caps tt te σ D Q H1
noncomputable def PTs (X:Cx) (ifs:List Expr) (tt:TT):Prop:=∀ (pins:List (Addr × Obj)) (s:Shared) (σ:St) (H:Hp) (Q:Bool->Hp->Prop),Inv X pins σ H s->tt σ H Q ->
 wpAny (model X.prog X.w) X.A (forIn ifs true fun c r=>if r=true then do let ok <- Ji c X.env (eval c X.env);pure (ForInStep.yield ok) else pure (ForInStep.yield r)) (TP X pins σ Q) X.xe s
noncomputable def Bt:TT:=fun _ H Q=>Q true H
theorem HJ {X:Cx}:PTs X [] Bt:=fun _ _ _ H _ I h=>wpAny_tests_nil ⟨H,I,h⟩
theorem HN {X:Cx} {c:Expr} {tt:TT} (h:PT X c tt):PTs X [c] tt:=fun pins s σ H Q I q=>wpAny_tests_one (h pins s σ H Q I q)
section
variable {X:Cx}
theorem Kf {elt iter:Expr} {x:Str} {px:Pos} {ifs:List Expr} {scope:Scope} {pos:Pos} {cl:List (Str × Addr)} {N:List Str} {caps:List Nat} {tt:TT} {te:TE} {pins:List (Addr × Obj)} {σ:St} {H2:Hp} {s2:Shared} {Q:VK} {it:Addr} {fp:List Addr} {tn:Nat->Heap->Prop} {J:It}
  {RR:Value->Addr->lU->Shared->Prop} {E:Value->Shared->Prop} (hc:X.calm=true)
  (hcell:∀ y∈scope.names,y.2 ≠ .cell) (hkind:scope.kind = .function) (hsub:Ke X.env.cells cl)
  (hhas:∀ y,((gC scope X.env).names.lookup y=some .cell\/(gC scope X.env).names.lookup y=some .free)->∃ c,cl.lookup y=some c)
  (hN:N.Nodup) (hN0:N[0]? = some x) (hx:(gC scope X.env).names.lookup x=some .local) (hlen:N.length=caps.length+1) (hcap:∀ (i:Nat) (j:Nat),caps[i]? = some j->Br X N scope cl (i+1) j)
  (ht:∀ s H fp C,PTs (dD X N scope cl s H fp C) ifs tt) (he:∀ s H fp C,PE (dD X N scope cl s H fp C) elt te)
  (I2:Inv X pins σ H2 s2) (T:Turn X.prog X.w X.K (.Name x px) J fp it tn) (st2:tn 0 s2.heap) (f2:∀ b∈fp,yL X pins H2 b) (w2:∀ D,H2 D=none->Bs J caps tt te σ D Q H2)
  (hRR:∀ D C σ' H' s5,s2.heap.objs.size<=C->Inv (dD X N scope cl s2 H2 fp C) (X.pn++pins) σ' H' s5->Q (.ref D) H'->RR (.ref D) C (.ok .next) s5) :
  wpAny (model X.prog X.w) X.A (Jf []) (fun acc s₃=>wpAny (model X.prog X.w) X.A (ad8 scope X.env.globals cl [] X.env.qual none .none (some X.env)) (fun cenv s₄ =>
   f9 (model X.prog X.w) X.A (.compStart (.ListComp elt [⟨.Name x px,iter,ifs,0⟩] scope pos) 0 (.ref it) acc { cenv with scope:=gC scope X.env }) (RR acc cenv.locals) s₄) E s₃) E s2:=by
 refine Ax (adW hcell (by intro y hy;simp at hy) (fun h₁ hns₁ hsb₁=>?_) hkind)
 dsimp only at hns₁ hsb₁ ⊢
 generalize hH2:s2.heap.push { cls:=.type "list",dict:=none,data:=.seq ([]:List Value).toArray }=G2 at hns₁ hsb₁ ⊢
 have hC:G2.objs.size=s2.heap.objs.size+1:=by rw [<- hH2,wF]
 have hCle:s2.heap.objs.size<=G2.objs.size:=by rw [hC];exact rO _
 have hDC:G2.objs.size≠s2.heap.objs.size:=by rw [hC];exact o9 (wI _)
 have old:∀ b o,s2.heap.get? b=some o->h₁.get? b=some o:=fun b o e =>
  hsb₁.extBut b o (by rw [hC];exact cM (Az (bR e))) (dX _ (hH2 ▸ dX _ e))
 have hacc:∃ n,h₁.get? s2.heap.objs.size=some { cls:=.type "list",data:=.seq #[] n }:=⟨_,hsb₁.extBut _ _ (aU hDC) (dX _ (hH2 ▸ eU _ rfl))⟩
 have hnD:H2 s2.heap.objs.size=none:=I2.hok.fresh (bh _)
 obtain ⟨W,⟨m0,w0⟩,turn⟩:=w2 s2.heap.objs.size hnD
 have fo:∀ b∈fp,∃ o,s2.heap.get? b=some o:=fun b hb=>by
  obtain ⟨o,e,_⟩:=T.obj _ _ st2 b hb
  exact ⟨o,e⟩
 have I3:Inv (dD X N scope cl s2 H2 fp G2.objs.size) (X.pn++pins) (mj σ none caps) (upd H2 s2.heap.objs.size (.lst [])) { s2 with heap:=h₁,toks:=s2.toks+([]:List (Str × Value)).length } :=
  I2.comp hkind hsub hhas f2 fo hlen hcap (bh _) hCle hDC old hacc ⟨_,hns₁⟩
 have st3:tn 0 h₁:=T.keep _ _ _ st2 fun b _ o e=>old b o e
 have nf:∀ b∈fp,b≠s2.heap.objs.size:=fun b hb=>by
  obtain ⟨o,e⟩:=fo b hb
  exact cM (bR e)
 have stat:∀ {H':Hp},(∀ b∈fp,H' b=none)->∀ b∈fp,yL (dD X N scope cl s2 H2 fp G2.objs.size) (X.pn++pins) H' b:=fun {H'} hn b hb=>by
  obtain ⟨f0,f1,f2',f3,f4,f5⟩:=f2 b hb
  obtain ⟨o,e⟩:=fo b hb
  refine ⟨hn b hb,cM (gk (bR e) hCle),fun z=>?_,.inl hb,fun y c q=>f4 y c (hsub.of q),fun p hp=>f5 p hp⟩
  rcases cP.mp (I2.wU b z) with q | q
  ·exact f1 q
  ·exact f2' q
 have loop:f9 (model X.prog X.w) X.A (.compLoop (.ListComp elt [⟨.Name x px,iter,ifs,0⟩] scope pos) 0 (.ref it) (.ref s2.heap.objs.size) (Pu scope cl G2.objs.size X.env))
   (RR (.ref s2.heap.objs.size) G2.objs.size) { s2 with heap:=h₁,toks:=s2.toks+([]:List (Str × Value)).length }:=by
  refine codeAny_compLoop_tests (fun n s'=>∃ i ys σ' H',Inv (dD X N scope cl s2 H2 fp G2.objs.size) (X.pn++pins) σ' H' s'/\(∃ z,σ'=mj σ z caps)/\tn i s'.heap/\(∀ b∈fp,H' b=none)/\W i n ys H') ?_ m0
   ⟨0,[],_,_,I3,⟨none,rfl⟩,st3,fun b hb=>by rw [aA (nf b hb)];exact (f2 b hb).1,w0⟩
  rintro n s' ⟨i,ys,σ',H',I',⟨z,rfl⟩,st',fr',w'⟩
  obtain ⟨hl,ends⟩:=turn i n ys H' w'
  rcases ends with ⟨stop,q⟩ | ⟨go,hsz,step⟩
  ·refine eO (T.done (dD X N scope cl s2 H2 fp G2.objs.size) rfl rfl rfl hc i _ s' _ H' (fun _ _=>False) I' (stat fr') st' stop) (fun r s5 ⟨hr,I5⟩=>?_) fun _ _ f=>f.elim
   subst hr
   exact hRR _ _ _ _ _ hCle I5 q
  ·refine eO (T.item (dD X N scope cl s2 H2 fp G2.objs.size) rfl rfl rfl hc i _ s' _ H' (fun _ _=>False) I' (stat fr') st' go) (fun r s5 ⟨u,hr,h5⟩=>?_) fun _ _ f=>f.elim
   subst hr
   show wpAny _ _ (IK (.Name x px) (.ref it) u >>= fun _=>rK (.Name x px) (Pu scope cl G2.objs.size X.env) u) _ _ _
   refine aJ (eO h5 (fun _ s6 ⟨y,H6,I6,r6,y6,st6,fr6⟩=>?_) fun _ _ f=>f.elim)
   have I6':=I6.pinned (stat fr6) (T.obj _ _ st6)
   have hg:PG (dD X N scope cl s2 H2 fp G2.objs.size) (.Name x px) (vB 0):=Hw hN hN0 (.inl hx) (.inr hx)
   have again:∀ {σ7:St} {H7:Hp} {s7:Shared},Inv (dD X N scope cl s2 H2 fp G2.objs.size) ((X.pn++pins)++Fe fp s6.heap) σ7 H7 s7->tn (i+1) s7.heap/\∀ b∈fp,H7 b=none:=fun {σ7 H7 s7} I7=>by
    refine ⟨T.keep _ _ _ st6 fun b hb o e=>(I7.pin (b,o) (qt _ (qt _ (lX hb e)))).1,fun b hb=>?_⟩
    obtain ⟨o,e,d⟩:=T.obj _ _ st6 b hb
    exact (I7.pin (b,o) (qt _ (qt _ (lX hb e)))).2.1
   refine eO (hg _ s6 _ H6 y u (fun σ7 H7=>σ7=mj σ (some y) caps/\H7=H6) I6' r6 ⟨rfl,rfl⟩) (fun _ s7 ⟨σ7,H7,I7,e7,e7'⟩=>?_) fun _ _ f=>f.elim
   subst e7 e7'
   refine eO (ht s2 H2 fp G2.objs.size _ s7 _ _ _ I7 (step y H7 y6)) (fun ok s8 ⟨H8,I8,q8⟩=>?_) fun _ _ f=>f.elim
   cases ok with
   | false =>
    obtain ⟨_,m',hm,w8⟩:=q8
    have a8:=again I8
    exact ⟨m',hm,i+1,ys,_,H8,I8.pB,⟨_,rfl⟩,a8.1,a8.2,w8⟩
   | true =>
    refine eO (he s2 H2 fp G2.objs.size _ s8 _ _ _ I8 q8) (fun x9 s9 ⟨y9,H9,I9,r9,l9,m',hm,w9⟩=>?_) fun _ _ f=>f.elim
    refine eO (d8 (X:=dD X N scope cl s2 H2 fp G2.objs.size) _ s9 _ H9 (.ref s2.heap.objs.size) [y9] _ [x9] (fun _ H10=>H10=upd H9 s2.heap.objs.size (.lst (ys++[y9]))) I9 rfl (.cons r9 .nil) ⟨_,ys,y9,rfl,rfl,l9,hsz,rfl⟩) (fun _ s10 ⟨_,H10,I10,_,e10⟩=>?_) fun _ _ f=>f.elim
    subst e10
    have a10:=again I10
    exact ⟨m',hm,i+1,ys++[y9],_,_,I10.pB,⟨_,rfl⟩,a10.1,a10.2,w9⟩
 exact adV loop (T.self _ 0 _ _ _ st3 loop)
theorem Rw {elt iter:Expr} {x:Str} {px:Pos} {ifs:List Expr} {scope:Scope} {pos:Pos} {cl:List (Str × Addr)} {N:List Str} {caps:List Nat} {wi:TI} {tt:TT} {te:TE} (hc:X.calm=true) (hclos:WW scope X.env=pure cl)
  (hcell:∀ y∈scope.names,y.2 ≠ .cell) (hkind:scope.kind = .function) (hnames:∀ y∈scope.names,y.2 = .local->scope.names.lookup y.1=some .local) (hsub:Ke X.env.cells cl)
  (hhas:∀ y,((gC scope X.env).names.lookup y=some .cell\/(gC scope X.env).names.lookup y=some .free)->∃ c,cl.lookup y=some c)
  (hN:N.Nodup) (hN0:N[0]? = some x) (hx:(gC scope X.env).names.lookup x=some .local) (hlen:N.length=caps.length+1) (hcap:∀ (i:Nat) (j:Nat),caps[i]? = some j->Br X N scope cl (i+1) j)
  (hi:PI X (.Name x px) iter wi) (ht:∀ s H fp C,PTs (dD X N scope cl s H fp C) ifs tt) (he:∀ s H fp C,PE (dD X N scope cl s H fp C) elt te)
  (hs:∀ x,Iw iter X.env x=pure x:=by intro _;rfl):PE X (.ListComp elt [⟨.Name x px,iter,ifs,0⟩] scope pos) (akB wi caps tt te):=by
 walk_at "e"
 rw [aef]
 refine Wj (use:=none) rfl hs hclos hkind hnames (thn (hi pins s σ H _ I h) fun v s1 h1=>thn h1 fun itv s2 h2=>?_)
 obtain ⟨it,fp,tn,J,H2,e,I2,T,st2,f2,w2⟩:=h2
 subst e
 exact Kf hc hcell hkind hsub hhas hN hN0 hx hlen hcap ht he I2 T st2 f2 w2 fun D C σ' H' s5 hC I5 q=>by
  obtain ⟨m,hm,_⟩:=I5.loc
  exact ⟨m,hm,fun h' hs'=>⟨.ref D,H',I2.Ze f2 hC I5 hs',rfl,q⟩⟩
theorem uK {i:Nat} {y:Str} {py spos:Pos} {elt iter:Expr} {x:Str} {px:Pos} {ifs:List Expr} {scope:Scope} {pos:Pos} {cl:List (Str × Addr)} {N:List Str} {caps:List Nat} {wi:TI} {tt:TT} {te:TE} (hXN:X.N.Nodup) (hi0:X.N[i]? = some y) (hy:Loc X.env.scope y)
  (hc:X.calm=true) (hclos:WW scope X.env=pure cl)
  (hcell:∀ y∈scope.names,y.2 ≠ .cell) (hkind:scope.kind = .function) (hnames:∀ y∈scope.names,y.2 = .local->scope.names.lookup y.1=some .local) (hsub:Ke X.env.cells cl)
  (hhas:∀ y,((gC scope X.env).names.lookup y=some .cell\/(gC scope X.env).names.lookup y=some .free)->∃ c,cl.lookup y=some c)
  (hN:N.Nodup) (hN0:N[0]? = some x) (hx:(gC scope X.env).names.lookup x=some .local) (hlen:N.length=caps.length+1) (hcap:∀ (i:Nat) (j:Nat),caps[i]? = some j->Br X N scope cl (i+1) j)
  (hi:PI X (.Name x px) iter wi) (ht:∀ s H fp C,PTs (dD X N scope cl s H fp C) ifs tt) (he:∀ s H fp C,PE (dD X N scope cl s H fp C) elt te)
  (hs:∀ x,Iw iter X.env x=pure x:=by intro _;rfl) (hsw:Eb (.ListComp elt [⟨.Name x px,iter,ifs,0⟩] scope pos) (some (.Name y py)) spos.line X.env=pure true:=by rfl)
  (hf:X.fn y=true\/X.env.scope.names.lookup y=some .local:=by first | exact .inl rfl | exact .inr rfl | assumption) :
  PS X (.Assign [.Name y py] (.ListComp elt [⟨.Name x px,iter,ifs,0⟩] scope pos) spos) (tAsg (akB wi caps tt te) (vB i)):=by
 intro pins s σ H D I h
 rw [exec_Assign_Name_used _ _ _ _ hsw]
 refine aJ (Wu (aJ ?_))
 show wpAny _ X.A (do let _ <- comprehension (.ListComp elt [⟨.Name x px,iter,ifs,0⟩] scope pos) scope X.env _ (Jf []) false (eval iter X.env) (some (rK (.Name y py) X.env))) _ _ s
 refine aJ (eO (Wj (use:=some (rK (.Name y py) X.env)) (Q:=fun _ s'=>SP X pins D .next s') rfl hs hclos hkind hnames
  (thn (hi pins s σ H _ I h) fun v s1 h1=>thn h1 fun itv s2 h2=>?_)) (fun _ s' hq=>aR (aR hq)) fun _ _ e=>e)
 obtain ⟨it,fp,tn,J,H2,e,I2,T,st2,f2,w2⟩:=h2
 subst e
 refine Kf (RR:=fun acc C=>compPost (model X.prog X.w) X.A X.xe (some (rK (.Name y py) X.env)) (fun _ s'=>SP X pins D .next s') acc C) hc hcell hkind hsub hhas hN hN0 hx hlen hcap ht he I2 T st2 f2 w2 fun D' C σ' H' s5 hC I5 q=>?_
 show wpAny _ X.A (rK (.Name y py) X.env (.ref D')) _ _ _
 have IX:Inv X pins σ H' s5:=I2.Ze (h':=s5.heap) f2 hC I5 ⟨rfl,fun _ _=>rfl⟩
 have nL:C≠X.env.locals:=by
  obtain ⟨m,⟨o,_,_,ho,_⟩,_⟩:=I2.loc
  exact o9 (gk (bR ho) hC)
 have nC:∀ z c,X.env.cells.lookup z=some c->c≠C:=fun z c e=>by
  obtain ⟨v,o,ho,_⟩:=I2.cell z c e
  exact cM (gk (bR ho) hC)
 refine adZ (MF IX hXN hi0 hy (v:=.ref D') rfl (fun s6 I6 hb=>?_) hf)
 obtain ⟨m,hm,_⟩:=I5.loc
 obtain ⟨a,sb,ha⟩:=hb
 have na:C≠a:=by
  rcases ha with z | z
  ·rw [z];exact nL
  ·exact aU (nC _ _ z)
 refine ⟨m,hm.sameBut sb na,fun h' hs'=>⟨_,H',?_,q⟩⟩
 obtain ⟨hp6,g6,d6,t6,o6⟩:=s6
 refine I6.turned (it:=C) (t':=t6) (fun b o hb e=>(hs'.2 b hb).trans e) I5.free nL (.inr (gM I2.sz hC)) nC fun p hp z=>?_
 have:=(I2.pin p hp).1
 exact absurd (gk (bR this) (by rw [z];exact hC)) (nF _)
end
theorem xr {names:List (Str × zJ)} {cl:List (Str × Addr)} (h:(names.all fun p=>(p.2 != .cell && p.2 != .free) || (cl.lookup p.1).isSome)=true) (y:Str) (hy:names.lookup y=some .cell\/names.lookup y=some .free):∃ c,cl.lookup y=some c:=by
 have key:∀ k:zJ,(k = .cell\/k = .free)->names.lookup y=some k->∃ c,cl.lookup y=some c:=fun k hk e=>by
  have m:=adH.mp h _ (Dv e)
  have:(k != .cell && k != .free)=false:=by rcases hk with z | z <;> (subst z;rfl)
  rw [show ((y,k):Str × zJ).2=k from rfl,this,aeM] at m
  exact afs.mp m
 rcases hy with z | z
 ·exact key _ (.inl rfl) z
 ·exact key _ (.inr rfl) z
noncomputable def gQ (X:Cx) (N:List Str) (scope:Scope) (cl:List (Str × Addr)):Nat->List Nat->Prop
 | _,[]=>True
 | i,j::r=>Br X N scope cl i j/\gQ X N scope cl (i+1) r
theorem gQ.at {X:Cx} {N:List Str} {scope:Scope} {cl:List (Str × Addr)}:∀ {caps:List Nat} {k:Nat},gQ X N scope cl k caps->∀ (i j:Nat),caps[i]? = some j->Br X N scope cl (i+k) j
 | [],_,_,i,j,h=>by simp at h
 | a::r,k,hc,0,j,h=>by
  have e:a=j:=by simpa using h
  subst e
  rw [uy];exact hc.1
 | a::r,k,hc,i+1,j,h=>by
  have:=gQ.at hc.2 i j (by simpa using h)
  rw [show i+1+k=i+(k+1) by lia];exact this
theorem Fv {K:aW} {a:Addr} {xs:List V} {caps:List Nat} {te:TE} {σ:St} {H:Hp} {D:Addr} {Q:VK} (Pv:Nat->List V->Hp->Prop) (h0:Pv 0 [] (upd H D (.lst [])))
  (hl:∀ i ys H,i<=xs.length->Pv i ys H->SqL K H a xs/\H D=some (.lst ys)/\ys.length<sizeLine)
  (hs:∀ i ys H x,xs[i]? = some x->Pv i ys H->te (mj σ (some x) caps) H fun y H3=>H3 D=some (.lst ys)/\Pv (i+1) (ys++[y]) (upd H3 D (.lst (ys++[y])))) (hd:∀ ys H,Pv xs.length ys H->Q (.ref D) H)
  (mono:∀ σ H (Q Q':VK),(∀ y H,Q y H->Q' y H)->te σ H Q->te σ H Q') :
  Bs (Itl K a) caps Bt te σ D Q H:=by
 refine ⟨fun i m ys H=>m=xs.length-i/\i<=xs.length/\Pv i ys H,⟨xs.length,by simp,dF _,h0⟩,?_⟩
 rintro i m ys H ⟨rfl,hi,p⟩
 obtain ⟨sq,q,z⟩:=hl i ys H hi p
 refine ⟨q,?_⟩
 by_cases hlt:i<xs.length
 ·refine .inr ⟨⟨xs,xs[i],sq,by simp [hlt]⟩,z,fun x H' y=>?_⟩
  obtain ⟨e,y⟩:=y
  subst e
  unfold Bt;dsimp only
  rw [if_pos rfl]
  exact mono _ _ _ _ (fun y H3 ⟨a,b⟩=>⟨a,xs.length-(i+1),by lia,rfl,hlt,b⟩) (hs i ys _ x (y xs sq) p)
 ·have e:i=xs.length:=by lia
  subst e
  exact .inl ⟨⟨xs,sq,bh _⟩,hd ys H p⟩
section
variable {X:Cx}
theorem Zf {A:bH} {E:Value->Shared->Prop} {s:Shared} {T:String} {r d:Addr} {n:Nat} {P:Nat->Value->Prop} {OK:Heap->Prop} {ns:List Int} {Q:Value->Shared->Prop}
  (K:aev X.prog X.w T r d n P OK) (hh:A.handled=none) (hok:OK s.heap) (hn:n<=sizeLine) (h64:n<64) (hP:∀ us:List Value,us.length=n->(∀ (j:Nat) (v:Value),us[j]? = some v->P j v)->IntsAre us ns)
  (h:∀ (h':Heap) (tk:Nat) (l:Addr) (out:Array Value) (ns':List Int) (e:Nat),(∀ b ob,s.heap.get? b=some ob->h'.get? b=some ob)->(∀ b ob,s.heap.get? b=some ob->b≠l)->h'.get? l=some (wO "list" out e) ->
   IntsAre out.toList ns'->ns'.Perm ns->ns'.Pairwise (· <= ·)->Q (.ref l) { s with heap:=h',toks:=tk }) :
  wpAny (model X.prog X.w) A (call (.builtin "sorted") [.ref r]) Q E s:=by
 refine afr Yh Ye Yg (afp _) ?_
 unfold dZ.«sorted»
 refine aJ (m:=WT "sorted" 1 1 _) (aR ?_)
 refine aJ (ael (A:=A.in1) K hh hok hn fun h1 tk acc hk hacc=>?_)
 have hl:acc.toList.length=n:=by rw [qx];exact hacc.1
 have hI:=hP acc.toList hl fun j v e=>hacc.2 j v (by rw [<- qw];exact e)
 refine aJ (Wv ?_ (by rw [hl];exact hn))
 have hoL:(h1.push (wO "list" acc.toList.toArray 0)).get? h1.objs.size=some (wO "list" acc.toList.toArray 0):=eU _ rfl
 refine aJ (oh (yP X8 ⟨_,hoL,rfl⟩ X7 (afk hoL hI (by rw [hl];exact h64) fun out ns' a1 a2 a3=>⟨_,rfl,?_⟩) (afl _)))
 refine aR ⟨_,rfl,?_⟩
 obtain ⟨e,he⟩:=Yc (vs:=acc.toList) (out:=out) hoL
 have hb:∀ b ob,s.heap.get? b=some ob->b<h1.objs.size:=fun b ob e'=>bR (hk b ob e')
 refine h _ tk _ out ns' e (fun b ob e'=>?_) (fun b ob e'=>cM (hb b ob e')) he a1 a2 a3
 have hlt:=hb b ob e'
 rw [Yb (cM hlt) (by rw [Qx];exact Az hlt)]
 exact dX _ (hk b ob e')
noncomputable def ahb:List V->Hp->VK->Prop:=fun xs H Q=>∃ a kvs ns,xs=[V.ref a]/\Rd H a (.dK kvs)/\(kvs.map fun p=>kV p.1)=ns.map V.int/\ns.length<64 /\
 ∀ (l:Addr) (ns':List Int),H l=none->ns'.Perm ns->ns'.Pairwise (· <= ·)->Q (.ref l) (upd H l (.lst (ns'.map V.int)))
noncomputable def ahc (K:aW):List V->Hp->VK->Prop:=fun xs H Q=>∃ a ns,xs=[V.ref a]/\SqL K H a (ns.map V.int)/\ns.length<64 /\
 ∀ (l:Addr) (ns':List Int),H l=none->ns'.Perm ns->ns'.Pairwise (· <= ·)->Q (.ref l) (upd H l (.lst (ns'.map V.int)))
theorem Zg (hc:X.calm=true):gP X (.builtin "sorted") ahb:=by
 walk_at "f"
 obtain ⟨a,kvs,ns,rfl,ha,ei,h64,q⟩:=h
 obtain ⟨u,rfl,ru⟩:=vals1 r
 cases ru
 obtain ⟨z,hd,vs,rel,dd⟩:=wY I.hok ha
 obtain ⟨ep,hat⟩:=dd.dictAt
 have hl:=rel.length
 have hns:ns.length=kvs.length:=by have:=congrArg lQ ei;simpa using this.symm
 refine Zf (X:=X) (ns:=ns) (aep (knd:=dj X.prog X.w) (kvs:=vs) (ep:=ep) hd) (I.ok.hd hc) hat (by rw [<- hl];exact z) tb_g% (fun us hu hv=>?_) fun h' tk l' out ns' e' kp hne hl' hI hp ho=>?_
 ·have vv:=Ft rel hu hv
  rw [ei] at vv
  exact intsAre_of vv
 ·refine ⟨.ref l',_,I.Gw (t':=tk) kp hne (show dG X.prog X.w _ h' l' (.lst (ns'.map V.int)) from ⟨?_,out.toList,e',oN hI,by simpa using hl'⟩),rfl,q l' ns' (I.none_of hne) hp ho⟩
  rw [aZ,hp.length_eq,hns];exact z
theorem Zh:gP X (.builtin "sorted") (ahc X.K):=by
 walk_at "f"
 obtain ⟨a,ns,rfl,ha,h64,q⟩:=h
 obtain ⟨u,rfl,ru⟩:=vals1 r
 cases ru
 obtain ⟨its,rv,p,hz⟩:=I.list ha
 have hI:=intsAre_of rv
 have hl:its.length=ns.length:=by rw [<- rv.length,aZ]
 refine sorted_ints p.isList hI tb_g% fun out ns' a1 a2 a3=>?_
 obtain ⟨e,he⟩:=sortedAll_at s.heap its out
 refine ⟨.ref (s.heap.objs.size+1),_,I.laid (t':=s.toks) (fun _ _=>sortedAll_old) (rO _) (show dG X.prog X.w _ _ (s.heap.objs.size+1) (.lst (ns'.map V.int)) from ⟨?_,out.toList,e,oN a1,by simpa using he⟩),rfl,q _ ns' (I.hok.fresh (rO _)) a2 a3⟩
 rw [aZ,a2.length_eq]
 rw [aZ] at hz
 exact hz
noncomputable def anb (K:aW):List V->Hp->VK->Prop:=fun xs H Q=>ahb xs H Q\/ahc K xs H Q
theorem lB (hc:X.calm=true):gP X (.builtin "sorted") (anb X.K):=(Zg hc).or Zh
end
structure Fg (K:aW) (mg:Str->Option Value) (x:Str) (s:Stmt) (f:Addr) (d:FuncData) (ps:List Str):Prop extends Fun K x x s f d where
 b:Binds K d ps []
 g:mg x=some (.ref f)
section
variable {X:Cx} {x:Str} {pos pos':Pos} {e:Expr} {te:TE} {i:Nat}
theorem aF {CX:CXT} {k:Nat} {f:Addr} {fd:FuncData} {ps:List Str} {sp:Sp} {E:XK} {s:Stmt} {es:List Expr} {t:TA} (F:cB X.prog X.w X.K X.mg X.base CX k f fd ps sp) (hr:jF k X.A) (g:Fg X.K X.mg x s f fd ps) (hx:Passes CX X E)
  (ha:PA X (e::es) t) (hg:Gl X x:=by rfl) (hdb:(x == ("__debug__" : Str))=false:=by decide) (he:cO (e::es) X.env=(false,eval e X.env)::cO es X.env:=by rfl) (hpl:(gh pos (cO es X.env)).any (·.1)=false:=by rfl) :
  PE X (.Call (.Name x pos') (e::es) [] pos) (akr sp [] E t):=ai2 F hr hg g.g g.kp g.b .nil hx ha hdb he hpl
theorem psS (i:Nat) (hN:X.N.Nodup) (he:PE X e te) (hi:X.N[i]? = some x:=by rfl) (hx:Loc X.env.scope x:=by exact Or.inl rfl) (hs:Eb e (some (.Name x pos')) pos.line X.env=pure false:=by rfl) (hf:X.fn x=true\/X.env.scope.names.lookup x=some .local:=by first | exact .inl rfl | exact .inr rfl | assumption) :
  PS X (.Assign [.Name x pos'] e pos) (tAsg te (vB i)):=agE hN hi hx he hs hf
theorem pgN (i:Nat) (hN:X.N.Nodup) (hi:X.N[i]? = some x:=by rfl) (hx:Loc X.env.scope x:=by exact Or.inl rfl) (hf:X.fn x=true\/X.env.scope.names.lookup x=some .local:=by first | exact .inl rfl | exact .inr rfl | assumption):PG X (.Name x pos) (vB i):=Hw hN hi hx hf
theorem pf (i:Nat) {f:Str} (hN:X.N[i]? = some x:=by rfl) (hv:Vis X.env.scope x:=by first | exact Or.inl rfl | exact Or.inr (Or.inl rfl) | exact Or.inr (Or.inr rfl)) (hd:(x == ("__debug__" : Str))=false:=by decide) (hcd:(x == ("__classdict__" : Str))=false:=by decide)
  (hb:v9 (.Name x pos) f X.env (eval (.Name x pos) X.env)=eval (.Name x pos) X.env:=by rfl):PE X (.Attribute (.Name x pos) f pos') (agN X.K (tVar i) f):=JV (pv i hN hv hd hcd) hb
end
section
variable {prog:aP} {w:World} {A:bH} {E:Value->Shared->Prop}
end
section
variable {X:Cx} {pos:Pos}
end
end L2
namespace Tm
open PySem PyProof.Rows
class Rk where
 kd:SortKind
 R:Keyed->Int
 Ok:Keyed->Prop
class Rl [Rk] (prog:aP) (w:World) (A:bH) (E:Value->Shared->Prop) (s:Shared):Prop where
 lt:∀ {x y:Keyed} {st:Qy} {Q:Option Bool->Qy->Prop},kindOf st=Rk.kd->Rk.Ok x->Rk.Ok y->Q (some (decide (Rk.R x<Rk.R y))) st->wpS (model prog w) A E s (lt' x y) Q st
section
variable [Rk]
noncomputable def K (xs:Array Keyed) (i:Nat):Int:=match xs[i]? with
 | some x=>Rk.R x
 | none=>0
noncomputable def kd0:SortKind:=Rk.kd
noncomputable def Is (x:Keyed) (n:Int):Prop:=Rk.Ok x/\Rk.R x=n
structure SBase (a₀:Array Keyed) (st:Qy):Prop where
 perm:(arrOf st).Perm a₀
 kind:kindOf st=kd0
 failed:failedOf st=none
 pend:pendingOf st = #[]
theorem SBase.size {a₀:Array Keyed} {st:Qy} (h:SBase a₀ st):(arrOf st).size=a₀.size:=h.perm.size_eq
section
variable {prog:aP} {w:World} {A:bH} {E:Value->Shared->Prop} {s:Shared} [Rl prog w A E s]
end
structure Within (xs ys:Array Keyed) (a b:Nat):Prop where
 perm:ys.Perm xs
 out:∀ i,i<a\/b<=i->ys[i]? = xs[i]?
section
variable {prog:aP} {w:World} {A:bH} {E:Value->Shared->Prop} {s:Shared} [Rl prog w A E s]
end
noncomputable def kv (p:Keyed):Int:=Rk.R p
noncomputable def Asc (l:List Keyed):Prop:=l.Pairwise fun x y=>kv x<=kv y
structure Mg (A B out ra rb:List Keyed):Prop where
 perm:(out++(ra++rb)).Perm (A++B)
 srt:Asc out
 sa:Asc ra
 sb:Asc rb
 le:∀ x∈out,∀ y∈ra++rb,kv x<=kv y
theorem ahd {l:List Keyed} {x:Keyed} (h:Asc l) (hx:∀ y∈l,kv y<=kv x):Asc (l++[x]) :=
 adx.mpr ⟨h,List.pairwise_singleton _ _,fun a ha b hb=>by rw [dh.mp hb];exact hx a ha⟩
theorem Mg.pushB {A B out ra rb:List Keyed} {x:Keyed} (h:Mg A B out ra (x::rb)) (hx:∀ y∈ra,kv x<=kv y):Mg A B (out++[x]) ra rb where
 perm:=by
  refine List.Perm.trans ?_ h.perm
  rw [jx]
  exact afD _ (adI (l₁:=ra) (l₂:=rb) (a:=x)).symm
 srt:=ahd h.srt fun y hy=>h.le y hy x (by simp)
 sa:=h.sa
 sb:=(lK.mp h.sb).2
 le:=fun y hy z hz=>by
  rcases cR.mp hy with m | m
  ·exact h.le y m z (by rcases cR.mp hz with q | q <;> simp [q])
  ·rw [dh.mp m]
   rcases cR.mp hz with q | q
   ·exact hx z q
   ·exact (lK.mp h.sb).1 z q
structure Merged (A B out:List Keyed):Prop where
 perm:out.Perm (A++B)
 srt:Asc out
theorem Mg.start {A B:List Keyed} {x:Keyed} {rb:List Keyed} (ha:Asc A) (hb:Asc B) (e:B=x::rb) (hx:∀ y∈A,kv x<=kv y):Mg A B [x] A rb:=by
 have h0:Mg A B [] A B:=⟨afF _,List.Pairwise.nil,ha,hb,fun _ h=>(nomatch h)⟩
 rw [e] at h0
 have:=h0.pushB hx
 rw [<- e] at this
 exact this
section
variable {prog:aP} {w:World} {A:bH} {E:Value->Shared->Prop} {s:Shared} [Rl prog w A E s]
end
end
section
variable {prog:aP} {w:World} {A:bH} {E:Value->Shared->Prop} {s:Shared}
end
end Tm
namespace L2
open PySem PySem.Spec PyProof.Rows
section
variable {X:Cx}
end
end L2
namespace Sx
open PySem
noncomputable def Ris (l:List Nat):Prop:=l.Pairwise (· < ·)
theorem Kg {xs:Array Nat} {j:Nat} (hr:Ris xs.toList):∀ (f lo hi:Nat),hi-lo<=f->lo<=hi->hi<=xs.size->(∀ (i v:Nat),xs[i]? = some v->i<lo->v<j)->(∀ (i v:Nat),xs[i]? = some v->hi<=i->j<=v) ->
  QD xs j f lo hi<=xs.size/\(∀ (i v:Nat),xs[i]? = some v->i<QD xs j f lo hi->v<j)/\∀ (i v:Nat),xs[i]? = some v->QD xs j f lo hi<=i->j<=v
 | 0,lo,hi,h1,h2,h3,h4,h5=>by
  obtain rfl:hi=lo:=by lia
  exact ⟨h3,h4,h5⟩
 | f+1,lo,hi,h1,h2,h3,h4,h5=>by
  unfold QD
  by_cases c:lo<hi
  ·rw [if_pos c]
   dsimp only
   have mh:(lo+hi) / 2<xs.size:=by lia
   have em:xs[(lo+hi) / 2]? = some xs[(lo+hi) / 2]:=getElem?_pos xs _ mh
   have eg:xs.getD ((lo+hi) / 2) j=xs[(lo+hi) / 2]:=by rw [Array.getD_eq_getD_getElem?,em];rfl
   have mono:∀ (i k v u:Nat),xs[i]? = some v->xs[k]? = some u->i<=k->v<=u:=fun i k v u e1 e2 h=>by
    rw [<- qw] at e1 e2
    obtain ⟨l1,rfl⟩:=gH.mp e1
    obtain ⟨l2,rfl⟩:=gH.mp e2
    rcases ig i k with z | z
    ·exact ou (VL.mp hr i k l1 l2 z)
    ·obtain rfl:i=k:=by lia
     exact bh _
   rw [eg]
   by_cases d:xs[(lo+hi) / 2]<j
   ·rw [if_pos d]
    refine Kg hr f _ hi tb_g% tb_g% h3 (fun i v e g=>?_) h5
    have:=mono i _ v _ e em tb_g%
    lia
   ·rw [if_neg d]
    refine Kg hr f lo _ tb_g% tb_g% tb_g% h4 fun i v e g=>?_
    have:=mono _ i _ v em e g
    lia
  ·rw [if_neg c]
   obtain rfl:hi=lo:=by lia
   exact ⟨h3,h4,h5⟩
theorem Bu {xs:Array Nat} (hr:Ris xs.toList) (j:Nat) :
  jC xs j<=xs.size/\(∀ (i v:Nat),xs[i]? = some v->i<jC xs j->v<j)/\∀ (i v:Nat),xs[i]? = some v->jC xs j<=i->j<=v :=
 Kg hr _ 0 _ tb_g% (dF _) (bh _) (fun _ _ _ h=>absurd h (Xm _)) fun i v e h=>by
  obtain ⟨l,_⟩:=ae3.mp e
  lia
theorem Zi {xs:Array Nat} (hr:Ris xs.toList):jC xs 0=0:=by
 obtain ⟨a,b,c⟩:=Bu hr 0
 rcases Js (jC xs 0) with z | z
 ·exact z
 ·have l:0<xs.size:=by lia
  exact absurd (b 0 _ (getElem?_pos xs 0 l) z) (Xm _)
theorem Zj {xs:Array Nat} (hr:Ris xs.toList) {i v:Nat} (e:xs[i]? = some v):jC xs (v+1)=i+1:=by
 obtain ⟨a,b,c⟩:=Bu hr (v+1)
 obtain ⟨l,e'⟩:=ae3.mp e
 have strict:∀ (k u:Nat),xs[k]? = some u->i<k->v<u:=fun k u e2 h=>by
  have e1:=e
  rw [<- qw] at e1 e2
  obtain ⟨l1,rfl⟩:=gH.mp e1
  obtain ⟨l2,rfl⟩:=gH.mp e2
  exact VL.mp hr i k l1 l2 h
 rcases Xl (jC xs (v+1)) (i+1) with z | z | z
 ·have:=c i v e tb_g%
  lia
 ·exact z
 ·have l2:i+1<xs.size:=by lia
  have e2:=getElem?_pos xs (i+1) l2
  have:=b (i+1) _ e2 z
  have:=strict (i+1) _ e2 tb_g%
  lia
structure Tk (t:fP) (n:Nat) (ld:Bool):Prop where
 n:t.place.size=n
 r:Ris t.place.toList
 d:t.dummies = #[]
 l:t.led=ld
theorem Zk {t:fP} {n j:Nat} {ld:Bool} (h:Tk t n ld) (e:t.slot j = .empty):j∉t.place.toList:=fun m=>by
 obtain ⟨i,l,q⟩:=Ou.mp m
 have e1:t.place[i]? = some j:=by rw [<- qw,fY l,q]
 obtain ⟨a,b,c⟩:=Bu h.r j
 have ge:jC t.place j<=i:=aez fun z=>nF _ (b i j e1 z)
 have eq:jC t.place j=i:=by
  rcases ig (jC t.place j) i with z | z
  ·have l3:i<t.place.size:=by simpa using l
   have l2:jC t.place j<t.place.size:=by lia
   have c1:=c _ _ (getElem?_pos t.place _ l2) (bh _)
   have:=VL.mp h.r (jC t.place j) i (by simpa using l2) l z
   rw [q] at this
   have c2:j<=t.place.toList[jC t.place j]'(by simpa using l2):=by simpa using c1
   lia
  ·lia
 unfold ae8 at e
 dsimp only at e
 rw [eq,e1] at e
 simp at e
theorem LQ {t:fP} {n j:Nat} {ld:Bool} (h:Tk t n ld):t.slot j ≠ .dummy:=fun e=>by
 unfold ae8 at e
 dsimp only at e
 split at e
 ·cases e
 ·rw [h.d] at e
  have hs:Qt #[] j=false:=by unfold Qt;simp
  rw [hs] at e
  simp at e
theorem Us {t:fP} {n:Nat} {ld:Bool} (h:Tk t n ld) {g:Nat->Int} {hh:Int}:∀ (f:Nat) (p:alB) (j:Nat) (d:Option Nat),p.dummy=none->afP t g hh f p=some (.empty j d)->d=none/\t.slot j = .empty
 | 0,_,_,_,_,e=>by cases e
 | f+1,p,j,d,hp,e=>by
  unfold afP at e
  have adv:(t.advance p).dummy=none:=by
   unfold aly
   split
   ·exact hp
   ·exact hp
  cases hs:t.slot p.j with
  | empty =>
   rw [hs] at e
   simp only [Xk,amz] at e
   obtain ⟨rfl,rfl⟩:=e
   exact ⟨hp,hs⟩
  | dummy=>exact absurd hs (LQ h)
  | live i =>
   rw [hs] at e
   dsimp only at e
   split at e
   ·cases e
   ·exact Us h f _ j d adv e
theorem ajj {t:fP} {n:Nat} {ld:Bool} (h:Tk t n ld) {hh:Int} {slot:Nat} {wd:Bool} (e:t.freeSlot hh=some (slot,wd)):slot∉t.place.toList:=by
 unfold alv at e
 split at e
 ·rename_i j d hq
  obtain ⟨rfl,q⟩:=Us h _ _ j d (by unfold alr;rfl) hq
  simp only [Yl,Option.isSome_none,Xk,Yn] at e
  rw [<- e.1]
  exact Zk h q
 ·cases e
theorem ajk {xs:Array Nat} (hr:Ris xs.toList) {j:Nat} (nj:j∉xs.toList):Ris (alw xs (jC xs j) j).toList:=by
 obtain ⟨a,b,c⟩:=Bu hr j
 rw [alq]
 unfold Ris at hr ⊢
 rw [adx]
 have e:xs.toList=xs.toList.take (jC xs j)++xs.toList.drop (jC xs j):=(V0 _ _).symm
 have lo:∀ v∈xs.toList.take (jC xs j),v<j:=fun v m=>by
  obtain ⟨i,l,q⟩:=Ou.mp m
  rw [jy] at l
  rw [List.getElem_take] at q
  exact b i v (by rw [<- qw,fY tb_g%,q]) tb_g%
 have hi:∀ v∈xs.toList.drop (jC xs j),j<v:=fun v m=>by
  have m':v∈xs.toList:=V3 m
  obtain ⟨i,l,q⟩:=Ou.mp m
  rw [List.getElem_drop] at q
  rw [Wa] at l
  have:=c (jC xs j+i) v (by rw [<- qw,fY tb_g%,q]) tb_g%
  rcases ig j v with z | z
  ·exact z
  ·exact absurd m' (by rw [show v=j by lia];exact nj)
 refine ⟨hr.sublist (V9 _ _),lK.mpr ⟨hi,hr.sublist (List.drop_sublist _ _)⟩,fun v m u m2=>?_⟩
 rcases cP.mp m2 with rfl | m2
 ·exact lo v m
 ·exact uz (lo v m) (hi u m2)
theorem acB (n:Nat):Ris (Array.range n).toList:=by
 unfold Ris
 rw [Array.toList_range]
 exact adw
theorem uL {t:fP} (n:Nat) {ld:Bool} (hl:t.led=ld):Tk (t.standIn n) n ld:=⟨by unfold alz;simp,acB n,rfl,hl⟩
theorem acC {t:fP} {es:Array (Int × Value)} {ld:Bool} (h:Tk t es.size ld) (hh:Int) (x:Value):Tk (Jj t es hh x).2.1 (es.size+1) ld/\(Jj t es hh x).1.size=es.size+1:=by
 have sz:(Jj t es hh x).1.size=es.size+1:=by
  have:=(layNew_perm t es hh x).length_eq
  simpa using this
 refine ⟨?_,sz⟩
 rw [<- sz]
 unfold Jj
 split
 ·rename_i slot wd e
  dsimp only
  unfold als
  split
  ·rename_i hf
   refine ⟨?_,?_,?_,h.l⟩
   ·unfold ae9 at hf
    simp only [Jy,beq_iff_eq] at hf
    exact hf.1
   ·exact ajk h.r (ajj h e)
   ·unfold alD
    dsimp only
    rw [h.d]
    have hs:Qt #[] slot=false:=by unfold Qt;simp
    rw [hs];rfl
  ·exact uL _ h.l
 ·have e:(es.push (hh,x)).size=es.size+1:=Array.size_push ..
  rw [e]
  exact uL _ h.l
theorem ahe (owner:Array (Option Nat)) (m:Nat):Ris (((oU (m+1)).filterMap fun j=>(owner.getD j none).map (j,·)).map (·.1)):=by
 unfold Ris
 rw [adD]
 refine amB _ (R:=(· < ·)) (fun a a' hlt b hb b' hb'=>?_) adw
 cases h1:owner.getD a none with
 | none=>rw [h1] at hb;cases hb
 | some u =>
  cases h2:owner.getD a' none with
  | none=>rw [h2] at hb';cases hb'
  | some u' =>
   rw [h1] at hb
   rw [h2] at hb'
   simp at hb hb'
   lia
theorem ahf {t:fP} {es:Array (Int × Value)} {ld:Bool} (hl:t.led=ld) (wanted:Nat):Tk (wu t es wanted).2.1 es.size ld/\(wu t es wanted).1.size=es.size:=by
 have sz:(wu t es wanted).1.size=es.size:=by
  have:=(aeg t es wanted).length_eq
  simpa using this
 refine ⟨?_,sz⟩
 have hf:=aeh t es wanted
 rw [sz] at hf
 unfold wu at hf ⊢
 split
 ·rename_i t' order e
  rw [e] at hf
  dsimp only at hf ⊢
  split
  ·rename_i hc
   rw [if_pos hc] at hf
   dsimp only at hf ⊢
   unfold alA alC at e
   cases ow:alx (alu wanted-1) (es.map (·.1)) with
   | none=>rw [ow] at e;cases e
   | some owner =>
    rw [ow] at e
    simp only [Option.bind_eq_bind,Option.bind_some,Option.pure_def,Xk,Yn] at e
    obtain ⟨rfl,_⟩:=e
    refine ⟨?_,?_,rfl,hl⟩
    ·unfold ae9 at hf
     simp only [Jy,beq_iff_eq] at hf
     exact hf.1
    ·exact ahe owner _
  ·exact uL _ hl
 ·exact uL _ hl
theorem Kl {α:Type} {l:List α} {i:Nat} (h:i<l.length):(l[i]::l.eraseIdx i).Perm l:=by
 rw [List.eraseIdx_eq_take_drop_succ]
 refine adI.symm.trans ?_
 rw [List.getElem_cons_drop h,V0]
theorem aaR {α:Type} (next:Nat->Nat):∀ (f k:Nat) (left:List α) (out:Array α),left.length=f->(pickOrder.go next f k left out).toList.Perm (out.toList++left)
 | 0,k,left,out,h=>by
  rw [Gh.mp h,Dr];exact .rfl
 | f+1,k,left,out,h=>by
  unfold pickOrder.go
  have lt:next k % left.length<left.length:=Xu _ tb_g%
  rw [fY lt]
  dsimp only
  have ih:=aaR next f (k+1) (left.eraseIdx (next k % left.length)) (out.push left[next k % left.length]) (by rw [ado lt];lia)
  refine ih.trans ?_
  rw [XJ,jx]
  exact afD _ (Kl lt)
theorem acD {α:Type} (next:Nat->Nat) (xs:Array α):(Pr next xs).toList.Perm xs.toList:=by
 have:=aaR next xs.size 0 xs.toList #[] (by simp)
 simpa [Pr] using this
end Sx
set_option autoImplicit false
namespace Sx
open PySem
noncomputable def iv:Value->Int
 | .int n _=>n
 | _=>0
noncomputable def keys (es:Array (Int × Value)):List Int:=es.toList.map fun e=>iv e.2
noncomputable def dd1 (C:List Int) (x:Int):List Int:=if x∈C then C else C++[x]
noncomputable def dd (ns:List Int):List Int:=ns.foldl dd1 []
theorem ahg {C D:List Int} (x:Int) (h:C.Perm D):(dd1 C x).Perm (dd1 D x):=by
 unfold dd1
 by_cases m:x∈C
 ·rw [if_pos m,if_pos (h.mem_iff.mp m)];exact h
 ·rw [if_neg m,if_neg (fun z=>m (h.mem_iff.mpr z))];exact h.append_right _
theorem ajl {ns:List Int} {i:Nat} {x:Int} (e:ns[i]? = some x):dd (ns.take (i+1))=dd1 (dd (ns.take i)) x:=by
 unfold dd
 rw [nZ,e,adG];rfl
theorem ajm {C:List Int} {x z:Int}:z∈dd1 C x↔z∈C\/z=x:=by
 unfold dd1
 split
 ·rename_i h
  exact ⟨.inl,fun q=>q.elim id fun e=>e ▸ h⟩
 ·rw [cR,dh]
theorem Nk {C:List Int} {x:Int} (h:C.Nodup):(dd1 C x).Nodup:=by
 unfold dd1
 split
 ·exact h
 ·rename_i n
  refine zp.mpr ⟨h,g8.mpr ⟨iW,oR⟩,fun a m b m2 e=>?_⟩
  rw [dh] at m2
  exact n (by rw [<- m2,<- e];exact m)
theorem Zm (ns:List Int):∀ C:List Int,C.Nodup->(ns.foldl dd1 C).Nodup/\(∀ z,z∈ns.foldl dd1 C↔z∈C\/z∈ns)/\(ns.foldl dd1 C).length<=C.length+ns.length:=by
 induction ns with
 | nil=>exact fun C h=>⟨h,fun z=>by simp,by simp⟩
 | cons x r ih =>
  intro C h
  obtain ⟨a,b,c⟩:=ih (dd1 C x) (Nk h)
  refine ⟨a,fun z=>?_,?_⟩
  ·show z∈r.foldl dd1 (dd1 C x)↔_
   rw [b z,ajm,cP]
   constructor
   ·rintro ((q | q) | q)
    ·exact .inl q
    ·exact .inr (.inl q)
    ·exact .inr (.inr q)
   ·rintro (q | q | q)
    ·exact .inl (.inl q)
    ·exact .inl (.inr q)
    ·exact .inr q
  ·show (r.foldl dd1 (dd1 C x)).length<=_
   have:(dd1 C x).length<=C.length+1:=by unfold dd1;split <;> simp
   rw [dH];lia
theorem Ut (ns:List Int):(dd ns).Nodup:=(Zm ns [] oR).1
theorem ahh {ns:List Int} {z:Int}:z∈dd ns↔z∈ns:=by
 rw [show dd ns=ns.foldl dd1 [] from rfl,(Zm ns [] oR).2.1 z];simp
theorem Rx (ns:List Int):(dd ns).length<=ns.length:=by have:=(Zm ns [] oR).2.2;simpa [dd] using this
section
variable {prog:aP} {w:World} {A:bH} {E:Value->Shared->Prop} {s:Shared}
structure fC (prog:aP) (w:World) (h:Heap) (a:Addr) (es:Array (Int × Value)) (ep:Nat) (t:fP) (ld:Bool):Prop where
 o:h.get? a=some { cls:=.type "set",dict:=none,data:=.set es ep t,slots:=#[] }
 el:Py (iQ prog w) es.toList
 tk:Tk t es.size ld
 few:es.size<scanBound
 ft:t.fits es.size=true
theorem fC.keep {h h':Heap} {a:Addr} {es:Array (Int × Value)} {ep:Nat} {t:fP} {ld:Bool} (x:fC prog w h a es ep t ld) (k:∀ o,h.get? a=some o->h'.get? a=some o):fC prog w h' a es ep t ld:=⟨k _ x.o,x.el,x.tk,x.few,x.ft⟩
theorem fC.ty {a:Addr} {es:Array (Int × Value)} {ep:Nat} {t:fP} {ld:Bool} (x:fC prog w s.heap a es ep t ld):s.TypeIs (.ref a) "set" := ⟨_,x.o,rfl⟩
theorem akC {k:Int} {v:Value} (h:(iQ prog w).is k v=true) (hs:v.scannable=true):iv v=k:=by
 have h:Es k v=true:=h
 cases v <;> simp_all [Es,iv,Value.scannable]
theorem anc {es:List (Int × Value)} (h:Py (iQ prog w) es) {e:Int × Value} (m:e∈es):(iQ prog w).is (iv e.2) e.2=true:=by
 obtain ⟨⟨k,hk,_⟩,hs⟩:=h e m
 rw [akC hk hs];exact hk
theorem ahi {h:Heap} {a:Addr} {es:Array (Int × Value)} {ep:Nat} {t:fP} (o:h.get? a=some { cls:=.type "set",dict:=none,data:=.set es ep t,slots:=#[] }) (es':Array (Int × Value)) (t':fP) :
  (h.update a (QC es' t')).get? a=some { cls:=.type "set",dict:=none,data:=.set es' (ep+1) t',slots:=#[] }:=by
 have:=Jq (QC es' t') o (by rw [putSet_of es' t' rfl];rfl)
 rw [putSet_of es' t' rfl] at this;exact this
theorem ane {a:Addr} {es:Array (Int × Value)} {ep:Nat} {t:fP} {ld:Bool} {n:Int} {k:Tok} {Q:Bool->Shared->Prop} (x:fC prog w s.heap a es ep t ld) (room:es.size+1<scanBound)
  (q:∀ (h':Heap) (es':Array (Int × Value)) (ep':Nat) (t':fP) (b:Bool),wG a s.heap h'->fC prog w h' a es' ep' t' ld->(keys es').Perm (dd1 (keys es) n)->Q b { s with heap:=h' }) :
  wpAny (model prog w) A (aej a (.int n k) ((iQ prog w).hash n)) Q E s:=by
 have key:(iQ prog w).is n (.int n k)=true:=decide_eq_true rfl
 unfold aej Pa
 refine oh (aJ (DG x.o rfl x.ft ?_));dsimp only
 rw [byScan_of rfl x.few x.el,if_pos rfl]
 unfold setAddByScan
 refine aJ (aJ (Jb (aJ (wpAny_setScan_of key x.o rfl x.ft x.el ?_))))
 cases hr:List.findIdx? (fun e=>(iQ prog w).is n e.2) es.toList with
 | some j =>
  dsimp only
  obtain ⟨hj,hp,_⟩:=List.findIdx?_eq_some_iff_getElem.mp hr
  have hm:n∈keys es:=by
   have sc:=(x.el _ (Dq hj)).2
   exact kj.mpr ⟨_,Dq hj,akC hp sc⟩
  refine aR (aR ?_)
  have:=q s.heap es ep t false (alZ a s.heap) x (by unfold dd1;rw [if_pos hm])
  cases s;exact this
 | none =>
  dsimp only
  have hm:n∉keys es:=fun m=>by
   obtain ⟨e,me,q1⟩:=kj.mp m
   have h1:=List.findIdx?_eq_none_iff.mp hr e me
   have h2:=anc x.el me
   rw [q1] at h2
   rw [h2] at h1;cases h1
  have p1:=layNew_perm t es ((iQ prog w).hash n) (.int n k)
  have f1:=layNew_fits t es ((iQ prog w).hash n) (.int n k)
  obtain ⟨k1,z1⟩:=acC x.tk ((iQ prog w).hash n) (.int n k)
  generalize Jj t es ((iQ prog w).hash n) (.int n k)=L at p1 f1 k1 z1 ⊢
  obtain ⟨es1,t1,wd,gv⟩:=L
  dsimp only at p1 f1 k1 z1 ⊢
  have e1:Py (iQ prog w) es1.toList:=(x.el.push key rfl).perm (by rw [XJ] at p1;exact p1)
  have pk:(keys es1).Perm (dd1 (keys es) n):=by
   unfold dd1
   rw [if_neg hm]
   have:=p1.map fun e=>iv e.2
   rw [XJ,cC] at this
   exact this
  have S1:∀ h':Heap,h'.get? a=some { cls:=.type "set",dict:=none,data:=.set es1 (ep+1) t1,slots:=#[] }->fC prog w h' a es1 (ep+1) t1 ld:=fun h' o=>⟨o,e1,by rw [z1];exact k1,by lia,f1⟩
  have rest:wpAny (model prog w) A (zL a es1 t1 >>= fun _=>if (!wd && t1.tooFull)=true then (match wu t1 es1 (zW es1.size) with
    | (es2,t2,gave)=>(match gave with | true=>rule "set.scan.the-table-gave-way" | false=>pure ()) >>= fun _=>zL a es2 t2 >>= fun _=>pure (some true)) else pure (some true))
    (fun r s'=>wpAny (model prog w) A (match r with | some added=>pure added | none=>Pa a (.int n k) ((iQ prog w).hash n) 99999) Q E s') E s:=by
   refine aJ (ad1 x.o rfl ?_ (DK tb_g%))
   have o1:=ahi x.o es1 t1
   have b1:=afI s.heap a (QC es1 t1)
   split
   ·have p2:=aeg t1 es1 (zW es1.size)
    have f2:=aeh t1 es1 (zW es1.size)
    obtain ⟨k2,z2⟩:=ahf (es:=es1) k1.l (zW es1.size)
    generalize wu t1 es1 (zW es1.size)=L2 at p2 f2 k2 z2 ⊢
    obtain ⟨es2,t2,gv2⟩:=L2
    dsimp only at p2 f2 k2 z2 ⊢
    refine aJ ?_
    have fin:wpAny (model prog w) A (zL a es2 t2 >>= fun _=>pure (some true)) (fun r s'=>wpAny (model prog w) A (match r with | some added=>pure added | none=>Pa a (.int n k) ((iQ prog w).hash n) 99999) Q E s') E { s with heap:=s.heap.update a (QC es1 t1) }:=by
     refine aJ <| ad1 o1 rfl (aR (aR ?_)) (DK tb_g%)
     refine q _ es2 (ep+1+1) t2 true (b1.trans (afI _ a _)) ⟨ahi o1 es2 t2,e1.perm p2,by rw [z2];exact k2,by lia,f2⟩ ?_
     exact (show (keys es2).Perm (keys es1) from p2.map _).trans pk
    cases gv2
    ·exact aR fin
    ·exact Jb fin
   ·exact aR (aR (q _ es1 (ep+1) t1 true b1 (S1 _ o1) pk))
  have go:∀ b:Bool,wpAny (model prog w) A (if b=true then hashByValue 8 (.int n k) >>= fun v=>(fun byValue=>zL a es1 (if byValue=true then t1 else { t1 with plain:=false }) >>= fun _=>if (!wd && (if byValue=true then t1 else { t1 with plain:=false }).tooFull)=true then (match wu (if byValue=true then t1 else { t1 with plain:=false }) es1 (zW es1.size) with
    | (es2,t2,gave)=>(match gave with | true=>rule "set.scan.the-table-gave-way" | false=>pure ()) >>= fun _=>zL a es2 t2 >>= fun _=>pure (some true)) else pure (some true)) v else pure true >>= fun v=>(fun byValue=>zL a es1 (if byValue=true then t1 else { t1 with plain:=false }) >>= fun _=>if (!wd && (if byValue=true then t1 else { t1 with plain:=false }).tooFull)=true then (match wu (if byValue=true then t1 else { t1 with plain:=false }) es1 (zW es1.size) with
    | (es2,t2,gave)=>(match gave with | true=>rule "set.scan.the-table-gave-way" | false=>pure ()) >>= fun _=>zL a es2 t2 >>= fun _=>pure (some true)) else pure (some true)) v)
    (fun r s'=>wpAny (model prog w) A (match r with | some added=>pure added | none=>Pa a (.int n k) ((iQ prog w).hash n) 99999) Q E s') E s:=fun b=>by
   cases b
   ·exact aJ (aR rest)
   ·exact aJ (uq (a:=true) rfl rest)
  cases gv
  ·exact aJ (aR (go t1.plain))
  ·exact aJ (Jb (go t1.plain))
end
end Sx
set_option autoImplicit false
namespace Sx
open PySem PyProof.Rows
theorem anf {vs:List Value} {ns:List Int} (h:IntsAre vs ns):∀ {i:Nat} {v:Value},vs[i]? = some v->∃ n t,ns[i]? = some n/\v = .int n t:=by
 induction h with
 | nil=>intro i v e;cases i <;> cases e
 | cons n t _ ih =>
  intro i v e
  cases i with
  | zero=>cases e;exact ⟨n,t,rfl,rfl⟩
  | succ i=>exact ih e
section
variable {prog:aP} {w:World} {A:bH} {E:Value->Shared->Prop} {s:Shared}
theorem ahj {R:lU->Shared->Prop} {S I l:Addr} {items:Array Value} {ns:List Int} {ld:Bool} (hh:A.in1.handled=none) (n1:S≠I) (n2:S≠l) (n3:l≠I) (hi:IntsAre items.toList ns) (few:items.size+1<scanBound) :
  ∀ (k i:Nat) (s:Shared) (es:Array (Int × Value)) (ep:Nat) (t:fP),items.size-i=k->i<=items.size->s.heap.IsListIter I l i->s.heap.IsList l items->fC prog w s.heap S es ep t ld->(keys es).Perm (dd (ns.take i)) ->
   (∀ (h':Heap) (tk:Nat) (es':Array (Int × Value)) (ep':Nat) (t':fP),(∀ b o,b≠S->b≠I->s.heap.get? b=some o->h'.get? b=some o)->fC prog w h' S es' ep' t' ld->(keys es').Perm (dd ns)->R (.ok (.ret .none)) { s with heap:=h',toks:=tk }) ->
   f9 (model prog w) A (.builtin "set.update.loop" ⟨[.ref S,.ref I],[]⟩) R s:=by
 have len:ns.length=items.size:=by rw [<- qx,hi.length]
 have W:=Yq (prog:=prog) (w:=w) hh I l n3 items
 intro k
 induction k with
 | zero =>
  intro i s es ep t hk hle it li x pk q
  obtain rfl:i=items.size:=by lia
  refine vq F.entry_set_update_loop ?_;rw [yS F.plain_set_update_loop _]
  show wpAny _ A.in1 (lR (.ref I) >>= _) _ _ s;refine aJ (W.done s _ _ ⟨it,li⟩ fun h' tk kp=>?_)
  show wpAny _ A.in1 (ret Value.none) _ _ _
  refine aR (q h' tk es ep t (fun b o _ b2 e=>kp b o (by simpa using b2) e) (x.keep fun o e=>kp S o (by simpa using n1) e) ?_)
  rw [<- len,qu] at pk;exact pk
 | succ k ih =>
  intro i s es ep t hk hle it li x pk q
  have lt:i<items.size:=by lia
  refine vq F.entry_set_update_loop ?_;rw [yS F.plain_set_update_loop _]
  show wpAny _ A.in1 (lR (.ref I) >>= _) _ _ s;refine aJ (W.item i s _ _ lt ⟨it,li⟩ fun v h' tk hP st kp=>?_)
  obtain ⟨n,t0,en,rfl⟩:=anf hi (v:=v) (by rw [qw];exact hP)
  have x1:fC prog w h' S es ep t ld:=x.keep fun o e=>kp S o (by simpa using n1) e
  show wpAny _ A.in1 (wz [Value.int n t0] (setAdd S (.int n t0)) >>= _) _ _ _;refine aJ (oh ?_)
  unfold setAdd
  refine oh (aJ ((iQ prog w).pyHash (k:=n) (decide_eq_true rfl) ?_))
  have room:es.size+1<scanBound:=by
   have h1:=pk.length_eq
   have h2:=Rx (ns.take i)
   rw [jy] at h2
   have h3:(keys es).length=es.size:=by unfold keys;simp
   lia
  refine ane (s:={ s with heap:=h',toks:=tk+1 }) x1 room fun h2 es2 ep2 t2 b sb x2 p2=>?_
  have ahk:∀ b o,b≠S->h'.get? b=some o->h2.get? b=some o:=fun b o nb e=>by rw [sb.2 b nb];exact e
  refine aR ⟨oW F.plain_set_update_loop _,ih (i+1) _ es2 ep2 t2 tb_g% lt (st.1.at fun o e=>ahk I o (aU n1) e) (st.2.at fun o e=>ahk l o (aU n2) e) x2 ?_ fun h3 tk3 es3 ep3 t3 kp3 x3 p3=>?_⟩
  ·rw [ajl en];exact p2.trans (ahg n pk)
  ·exact q h3 tk3 es3 ep3 t3 (fun b o b1 b2 e=>kp3 b o b1 b2 (ahk b o b1 (kp b o (by simpa using b2) e))) x3 p3
end
end Sx
set_option autoImplicit false
set_option maxRecDepth 100000
namespace Sx
open PySem PyProof.Rows
section
variable {prog:aP} {w:World} {A:bH} {E:Value->Shared->Prop} {s:Shared}
noncomputable def jd (w:World):Bool:=!w.params.followText "set-order"
noncomputable def Zn (ld:Bool):Obj:={ cls:=.type "set",dict:=none,data:=.set #[] 0 (.fresh 0 0 ld) }
theorem ajn (a:Value) {Q₁:Value->Shared->Prop} (h:Q₁ (.ref s.heap.objs.size) { s with heap:=s.heap.push (Zn (jd w)) }) :
  f9 (model prog w) A (.call (.builtin "set.__new__") ⟨[.type "set",a],[]⟩) (wants Q₁ E) s:=by
 refine ad4 ?_;show wpAny _ A.in1 (O6 "set.__new__" ⟨[.type "set",a],[]⟩ >>= fun _=>again (.builtin "set.__new__" ⟨[.type "set",a],[]⟩)) _ _ s
 refine aJ (uq (F.newCall_set_1 a) (aR ⟨oW F.plain_set_new _,vq F.entry_set_new ?_⟩));rw [yS F.plain_set_new _]
 unfold dZ.«set.__new__» al9;have hsub:=sub_set_self
 obtain ⟨hp,g,d,tk,os⟩:=s
 dsimp only;wp_walk
 refine DN (aR ?_);dsimp only;simp only [newObj]
 refine aJ (wpAny_alloc (aR (aR ?_)))
 exact h
set_option maxHeartbeats 3200000 in
theorem ahl {l:Addr} {items:Array Value} {ns:List Int} {Q:Value->Shared->Prop} (hh:A.handled=none) (hl:s.heap.IsList l items) (hi:IntsAre items.toList ns) (few:items.size+1<scanBound)
  (q:∀ (h':Heap) (tk:Nat) (es:Array (Int × Value)) (ep:Nat) (t:fP),fC prog w h' s.heap.objs.size es ep t (jd w)->(keys es).Perm (dd ns)->(∀ b o,s.heap.get? b=some o->h'.get? b=some o)->Q (.ref s.heap.objs.size) { s with heap:=h',toks:=tk }) :
  wpAny (model prog w) A (call (.type "set") [.ref l]) Q E s:=by
 obtain ⟨c,tl,hmro⟩:=F.called_set.mro;have hmade:=F.called_set.made;have hsub:=F.called_set.sub
 refine wg (ad4 ?_);show wpAny _ _ (callAny (.type "set") _) _ _ _
 refine aR ⟨afM _ tb_g%,vq F.entry_type_call ?_⟩;rw [Around.under_plain (weight_type_call_type "set" [.ref l] []) rfl]
 have h1:=F.called_set.notType;have h2:=F.called_set.canCreate;have hct:=F.typeCall_set_1 (.ref l)
 repeat (any_goals (first | assumption | wp_step))
 refine uo (ajn (.ref l) (E:=E) (Q₁:=fun obj s₁=>obj = .ref s.heap.objs.size/\s₁={ s with heap:=s.heap.push (Zn (jd w)) }) ⟨rfl,rfl⟩) fun r s₁ hr=>?_
 rcases r with e | fl
 ·exact hr
 cases fl with
 | ret obj =>
  obtain ⟨rfl,rfl⟩:=hr
  have hS:(s.heap.push (Zn (jd w))).get? s.heap.objs.size=some (Zn (jd w)):=eU _ rfl
  have hT:afT { s with heap:=s.heap.push (Zn (jd w)) } (.ref s.heap.objs.size) "set" := ⟨_,hS,rfl⟩
  have hli:=F.called_set.init.lookup;have hbi:=F.called_set.init.bind (.ref s.heap.objs.size)
  repeat (any_goals (first | assumption | wp_step))
  refine uo (Iu (R:=wants (fun r s₂=>r = .none/\∃ h' tk es ep t,s₂={ s with heap:=h',toks:=tk }/\fC prog w h' s.heap.objs.size es ep t (jd w)/\(keys es).Perm (dd ns)/\∀ b o,s.heap.get? b=some o->h'.get? b=some o) E)
   F.called_set.init.plain F.entry_set_init (check_set_init_1 hT ?_)) fun r₂ s₂ hr₂=>?_
  ·obtain ⟨ol,hol,hcl,nl,hdl⟩:=hl
   obtain ⟨ocls,odict,odata,oslots⟩:=ol
   simp only at hcl hdl
   subst hcl;subst hdl
   have hlS:l<s.heap.objs.size:=bR hol
   have hol':=dX (Zn (jd w)) hol
   unfold Zn at hS hT hol' ⊢
   have hsls:=F.sub_list_set;have hslf:=F.sub_list_frozenset
   have hne:(Value.type "list" == Value.type "dict")=false:=by decide
   have hl1:Heap.IsList (s.heap.push { cls:=.type "set",dict:=none,data:=.set #[] 0 (.fresh 0 0 (jd w)) }) l items:=⟨_,hol',rfl,nl,rfl⟩
   unfold dZ.«set.__init__» noKeywords al8
   generalize hPI:wA=PI;wp_walk;subst hPI
   refine ad0 hl1 ?_;refine aJ (Ws ?_)
   have z:(s.heap.push { cls:=.type "set",dict:=none,data:=.set #[] 0 (.fresh 0 0 (jd w)) }).objs.size=s.heap.objs.size+1:=wF ..
   refine ahj (ld:=jd w) (by simp [hh]) (by rw [z];exact cM (wI _)) (o9 hlS) (by rw [z];exact cM (Az hlS)) hi few (items.size-0) 0 _ #[] 0 (.fresh 0 0 (jd w)) rfl (dF _)
    ⟨_,eU _ rfl,rfl,rfl⟩ (hl1.push _) ⟨dX _ hS,fun e m=>by simp at m,⟨rfl,List.Pairwise.nil,rfl,rfl⟩,by decide,rfl⟩ (by exact .nil) fun h' tk es ep t kp x p=>?_
   show wpAny _ _ _ _ _ _;refine aR ?_
   show wpAny _ _ (ret Value.none) _ _ _;refine aR ⟨rfl,h',tk,es,ep,t,rfl,x,p,fun b o e=>?_⟩
   have hb:=bR e
   exact kp b o (cM hb) (by rw [z];exact cM (Az hb)) (dX _ (dX _ e))
  ·rcases r₂ with e | fl₂
   ·exact hr₂
   cases fl₂ with
   | ret r =>
    obtain ⟨rfl,h',tk,es,ep,t,rfl,x,p,kp⟩:=hr₂
    repeat (any_goals (first | assumption | wp_step))
    exact q _ _ _ _ _ x p kp
   | _=>exact hr₂.elim
 | _=>exact hr.elim
end
end Sx
set_option autoImplicit false
set_option maxRecDepth 100000
namespace Sx
open PySem PyProof.Rows
theorem lC:Slot "set_iterator" "__next__" "set_iterator.__next__" := .of (owner := "set_iterator") (n := "__next__") (by rw [O9,O3];kernel_rfl) tb_g% tb_g% tb_g% (by first | exact .inl tb_g% | exact .inr tb_g%) (by rw [Pb];kernel_rfl)
theorem aaS:Slot "set_iterator" "__iter__" "set_iterator.__iter__" := .of (owner := "set_iterator") (n := "__iter__") (by rw [O9,O3];kernel_rfl) tb_g% tb_g% tb_g% (by first | exact .inl tb_g% | exact .inr tb_g%) (by rw [Pb];kernel_rfl)
theorem HS:zK table "set_iterator.__next__" = some dZ.«set_iterator.__next__» := entryFor_of_tree (by kernel_rfl)
theorem ajo:zK table "set_iterator.__iter__" = some dZ.«dict_keyiterator.__iter__» := Wr (id' := "dict_keyiterator.__iter__") (by kernel_rfl) rfl tb_g% (by kernel_rfl)
theorem ahm:zK table "set.__iter__" = some dZ.«frozenset.__iter__» := Wr (id' := "frozenset.__iter__") (by kernel_rfl) rfl tb_g% (by kernel_rfl)
theorem HW (a:Value):wB "set_iterator.__next__" ⟨[a],[]⟩:=by unfold wB;kernel_rfl
theorem ajp (a:Value):wB "set_iterator.__iter__" ⟨[a],[]⟩:=by unfold wB;kernel_rfl
section
variable {prog:aP} {w:World} {A:bH} {E:Value->Shared->Prop} {s:Shared}
theorem acE {M:Model} {src:Source} {n:Nat} {Q:Nat->Shared->Prop} (h0:n≠0) (q:∀ (i:Nat) (d:Drawn),i<n->Q i { s with drawn:=d }):wpAny M A (choose src n) Q E s:=fun Γ p _=>by
 unfold choose
 rw [Sem.wp_choose]
 exact ⟨h0,q _ _ (Xu _ (aey h0))⟩
theorem aaT {M:Model} {α:Type}:∀ (n:Nat) (xs:List α) (s:Shared) {Q:List α->Shared->Prop},xs.length=n->(∀ (ys:List α) (d:Drawn),ys.Perm xs->Q ys { s with drawn:=d })->wpAny M A (drawOrder n xs) Q E s
 | 0,xs,s,Q,h,q=>by
  obtain rfl:=Gh.mp h
  exact aR (q [] s.drawn .nil)
 | n+1,[],s,Q,h,q=>by cases h
 | n+1,x::xs,s,Q,h,q=>by
  show wpAny M A (choose .order (x::xs).length >>= _) Q E s
  refine aJ (acE (by rw [h];exact Nat.succ_ne_zero n) fun i d hi=>?_)
  rw [fY hi]
  refine aJ (aaT n ((x::xs).eraseIdx i) _ (by rw [ado hi,h];rfl) fun ys d2 p=>aR (q _ d2 ?_))
  exact (p.cons _).trans (Kl hi)
noncomputable def itO (f:Value) (i:Nat) (a:Addr) (n ep:Nat):Obj:={ cls:=.type "set_iterator",dict:=none,data:=.fields #[f,.int i 0,.ref a,.int n 0,.int ep 0],slots:=#[] }
theorem aaU {I a:Addr} {f:Value} {i n ep:Nat} {Q:Value->Shared->Prop} (o:s.heap.get? I=some (itO f i a n ep)) (q:Q (.ref I) s):wpAny (model prog w) A (wA (.ref I)) Q E s:=by
 have hT:s.TypeIs (.ref I) "set_iterator" := ⟨_,o,rfl⟩
 refine Wo hT aaS (yP aaS hT ajo ?_ (ajp _))
 show wpAny _ _ (ret (.ref I)) _ _ s
 exact aR ⟨_,rfl,"set_iterator",_,hT,lC.lookup,q⟩
theorem aaV {α:Type} {Q:α->Shared->Prop} (hh:A.handled=none) (q:∀ (h':Heap) (x:Addr),(∀ b o,s.heap.get? b=some o->h'.get? b=some o)->afT { s with heap:=h' } (.ref x) "StopIteration" -> E (.ref x) { s with heap:=h' }) :
  wpAny (model prog w) A (newExc (.type "StopIteration") [] >>= fun e=>(raiseNew e:Sem α)) Q E s:=by
 refine aJ ?_
 simp only [newExc,newTuple]
 refine aJ (Ax ?_ (by size_fits));refine aJ (m:=ad9 _ _) (uq (a:=Value.none) (by first | rfl | (simp only [ad9];rfl)) ?_)
 refine Ax ?_ (by size_fits)
 simp only [raiseNew]
 refine aJ (wpAny_handled ?_);rw [hh]
 refine aJ (aR (wpAny_throw (q _ _ (fun b o e=>dX _ (dX _ e)) ⟨_,eU _ rfl,rfl⟩)))
end
end Sx
set_option autoImplicit false
set_option maxRecDepth 100000
namespace Sx
open PySem PyProof.Rows
section
variable {prog:aP} {w:World} {A:bH} {E:Value->Shared->Prop} {s:Shared} {I a:Addr} {es:Array (Int × Value)} {ep:Nat} {t:fP} {ld:Bool}
noncomputable def Fw (prog:aP) (w:World) (s:Shared) (a:Addr) (sl i ep:Nat) (r:Option (Value × Nat)):Prop:=∀ (A:bH) (E:Value->Shared->Prop) (Q:Option (Value × Nat)->Shared->Prop),Q r s->wpAny (model prog w) A (setNext a sl i ep) Q E s
theorem acF {sl i nx:Nat} {x:Value} {Q:Option Value->Shared->Prop} (o:s.heap.get? I=some (itO (.int sl 0) i a es.size ep)) (X:fC prog w s.heap a es ep t ld) (N:Fw prog w s a sl i ep (some (x,nx)))
  (q:∀ h',h'.get? I=some (itO (.int nx 0) (i+1) a es.size ep)->wG I s.heap h'->Q (some x) { s with heap:=h' }):wpAny (model prog w) A (lR (.ref I)) Q E s:=by
 have hT:s.TypeIs (.ref I) "set_iterator" := ⟨_,o,rfl⟩
 unfold lR
 refine aJ (DX (O2 (name:=bG "__next__") hT lC (yP lC hT HS ?_ (HW _))))
 unfold dZ.«set_iterator.__next__»
 refine aJ (uq (a:=(Value.ref I,[])) rfl ?_)
 refine aJ (Pg o rfl ?_)
 dsimp only
 refine aJ (Iv X.o rfl X.ft ?_)
 rw [if_neg (by simp)]
 refine aJ (N _ _ _ ?_)
 dsimp only
 refine aJ (Dy o (by simp) fun h1 o1 b1=>?_)
 refine aJ (Dy o1 (by simp) fun h2 o2 b2=>aR ⟨x,rfl,aR (q h2 ?_ (b1.trans b2))⟩)
 rw [o2];rfl
theorem acG {sl i:Nat} {Q:Option Value->Shared->Prop} (hh:A.handled=none) (o:s.heap.get? I=some (itO (.int sl 0) i a es.size ep)) (X:fC prog w s.heap a es ep t ld) (N:Fw prog w s a sl i ep none)
  (q:∀ h',(∀ b u,b≠I->s.heap.get? b=some u->h'.get? b=some u)->Q none { s with heap:=h' }):wpAny (model prog w) A (lR (.ref I)) Q E s:=by
 have hT:s.TypeIs (.ref I) "set_iterator" := ⟨_,o,rfl⟩
 unfold lR
 refine aJ (DX (O2 (name:=bG "__next__") hT lC (yP lC hT HS ?_ (HW _))))
 unfold dZ.«set_iterator.__next__»
 refine aJ (uq (a:=(Value.ref I,[])) rfl ?_)
 refine aJ (Pg o rfl ?_)
 dsimp only
 refine aJ (Iv X.o rfl X.ft ?_)
 rw [if_neg (by simp)]
 refine aJ (N _ _ _ ?_)
 dsimp only
 refine aJ (Dy o (by simp) fun h1 o1 b1=>?_)
 refine aaV (A:=A.in1) hh fun h2 x kp ty=>?_
 refine aJ (O7 (T := "StopIteration") (b:=true) ty aea (aR (q h2 fun b u nb e=>kp b u ?_)))
 rw [b1.2 b nb];exact e
theorem bt' (h:w.params.followText "set-order" = true):({ program:=(model prog w).prog,params:=(model prog w).w.params }:Setting).params.followText "set-order" = true:=h
theorem acH (X:fC prog w s.heap a es ep t ld) (bt:w.params.followText "set-order" = true) (i:Nat):Fw prog w s a 0 i ep (((Pr (w.params.setOrder a ep) es)[i]?).map fun e=>(e.2,0)):=fun A E Q q=>by
 unfold setNext
 refine aJ (DG X.o rfl X.ft ?_);dsimp only
 unfold Pq
 refine aJ (aJ (DN (aR ?_)))
 rw [if_pos (bt' bt),if_neg (by simp)]
 unfold setWalk
 refine aJ (aJ (DG X.o rfl X.ft ?_));dsimp only
 unfold Pq
 refine aJ (aJ (DN (aR ?_)))
 rw [if_pos (bt' bt)]
 exact aJ (DN (aR (aR q)))
noncomputable def slotAt (t:fP):Nat->Nat
 | 0=>0
 | i+1=>t.place.getD i 0+1
theorem Zo (X:fC prog w s.heap a es ep t ld) (bt:w.params.followText "set-order" = false) (hl:ld=true) (pl:(!t.plain && decide (es.size>1))=false) {i:Nat} (hi:i<=es.size) :
  Fw prog w s a (slotAt t i) i ep ((es[i]?).map fun e=>(e.2,slotAt t (i+1))):=fun A E Q q=>by
 have bl:jC t.place (slotAt t i)=i:=by
  cases i with
  | zero=>exact Zi X.tk.r
  | succ i =>
   have l:i<t.place.size:=by rw [X.tk.n];lia
   have e:=getElem?_pos t.place i l
   show jC t.place (t.place.getD i 0+1)=i+1
   rw [Array.getD_eq_getD_getElem?,e]
   exact Zj X.tk.r e
 unfold setNext
 refine aJ (DG X.o rfl X.ft ?_);dsimp only
 unfold Pq
 refine aJ (aJ (DN (aR ?_)))
 rw [if_neg (fun z=>by have z:w.params.followText "set-order" = true:=z;rw [bt] at z;cases z)]
 show wpAny _ _ (if (!t.plain && decide (es.size>1))=true then _ else _) _ _ _
 rw [if_neg (by rw [pl];decide)]
 refine aJ (m:=if (!t.led && !es.isEmpty)=true then IW "set:maker-not-led" else pure ()) ?_
 rw [if_neg (by rw [X.tk.l,hl];simp)]
 refine aR ?_
 rw [bl]
 refine aR ?_
 rcases ig i es.size with l | l
 ·have l2:i<t.place.size:=by rw [X.tk.n];exact l
  rw [getElem?_pos es i l] at q ⊢
  rw [getElem?_pos t.place i l2]
  have:slotAt t (i+1)=t.place[i]+1   := by show t.place.getD i 0+1=_;rw [Array.getD_eq_getD_getElem?,getElem?_pos t.place i l2];rfl
  simpa [this] using q
 ·rw [getElem?_neg es i tb_g%] at q ⊢
  exact q
theorem ahn {ord:List Value} {sl:Nat->Nat} (hh:A.handled=none) (ne:a≠I) (hn:ord.length=es.size) (N:∀ (s:Shared) (i:Nat),fC prog w s.heap a es ep t ld->i<=es.size->Fw prog w s a (sl i) i ep ((ord[i]?).map fun v=>(v,sl (i+1)))) :
  Walks prog w A I [I,a] [I] es.size (fun i v=>ord[i]? = some v) (fun i h=>h.get? I=some (itO (.int (sl i) 0) i a es.size ep)/\fC prog w h a es ep t ld) where
 sub:=fun b hb=>by simp at hb;simp [hb]
 frame:=fun i h h' st kp=>⟨kp I (by simp) _ st.1,st.2.keep fun o e=>kp a (by simp) o e⟩
 item:=fun i s Q E hi st q=>by
  have nx:=N s i st.2 (ou hi)
  rw [fY (by rw [hn];exact hi)] at nx
  refine acF st.1 st.2 nx fun h' o b=>?_
  have kp:∀ c u,c≠I->s.heap.get? c=some u->h'.get? c=some u:=fun c u nc e=>by rw [b.2 c nc];exact e
  exact q _ h' s.toks (fY (by rw [hn];exact hi)) ⟨o,st.2.keep fun u e=>kp a u ne e⟩ fun c u nc e=>kp c u (by simpa using nc) e
 done:=fun s Q E st q=>by
  have nx:=N s es.size st.2 (bh _)
  rw [vo (by rw [hn];exact bh _)] at nx
  exact acG hh st.1 st.2 nx fun h' kp=>q h' s.toks fun c u nc e=>kp c u (by simpa using nc) e
 self:=fun i s Q E st q=>aaU st.1 q
end
end Sx
set_option autoImplicit false
set_option maxRecDepth 100000
namespace Sx
open PySem PyProof.Rows
section
variable {prog:aP} {w:World} {A:bH} {E:Value->Shared->Prop} {s:Shared} {I a tp:Addr} {es:Array (Int × Value)} {ep:Nat} {t:fP} {ld:Bool}
noncomputable def ordD (es:Array (Int × Value)) (ps:List Nat):List Value:=ps.map fun p=>(es.getD p (0,.none)).2
theorem acI {ps:List Nat} (h:ps.Perm (oU es.size)):(ordD es ps).Perm (es.toList.map (·.2)):=by
 refine (h.map _).trans ?_
 have:(oU es.size).map (fun p=>(es.getD p (0,.none)).2)=es.toList.map (·.2):=by
  apply List.ext_getElem
  ·simp
  ·intro i h1 h2
   have l:i<es.size:=by simpa using h1
   rw [adJ,adJ,List.getElem_range,Array.getD_eq_getD_getElem?,getElem?_pos es i l]
   simp
 rw [this]
noncomputable def LR (ps:List Nat):Obj:={ cls:=.type "tuple",data:=.seq (ps.map fun (i:Nat)=>nA i).toArray }
theorem Zq {i p:Nat} {h0:Int} {x:Value} {ps:List Nat} {Q:Option Value->Shared->Prop} (o:s.heap.get? I=some (itO (.ref tp) i a es.size ep)) (ot:s.heap.get? tp=some (LR ps)) (X:fC prog w s.heap a es ep t ld)
  (hp:ps[i]? = some p) (hx:es[p]? = some (h0,x)) (q:∀ h',h'.get? I=some (itO (.ref tp) (i+1) a es.size ep)->wG I s.heap h'->Q (some x) { s with heap:=h' }):wpAny (model prog w) A (lR (.ref I)) Q E s:=by
 have hT:s.TypeIs (.ref I) "set_iterator" := ⟨_,o,rfl⟩
 unfold lR
 refine aJ (DX (O2 (name:=bG "__next__") hT lC (yP lC hT HS ?_ (HW _))))
 unfold dZ.«set_iterator.__next__»
 refine aJ (uq (a:=(Value.ref I,[])) rfl ?_)
 refine aJ (Pg o rfl ?_)
 dsimp only
 refine aJ (Iv X.o rfl X.ft ?_)
 rw [if_neg (by simp)]
 refine aJ (v8 ot rfl ?_)
 dsimp only
 have e1:((ps.map fun (i:Nat)=>nA i).toArray)[(i:Int).toNat]? = some (.int p 0):=by
  show ((ps.map fun (i:Nat)=>nA i).toArray)[i]? = _
  rw [V1,gZ,hp];rfl
 rw [e1]
 dsimp only
 refine aJ ?_
 unfold setNextDrawn
 refine aJ (DG X.o rfl X.ft ?_)
 dsimp only
 rw [if_neg (by simp)]
 have e2:es[(p:Int).toNat]? = some (h0,x):=hx
 rw [e2]
 refine aR ?_
 refine aJ (Dy o (by simp) fun h1 o1 b1=>aR ⟨x,rfl,aR (q h1 ?_ b1)⟩)
 rw [o1];rfl
theorem Zr {ps:List Nat} {Q:Option Value->Shared->Prop} (hh:A.handled=none) (o:s.heap.get? I=some (itO (.ref tp) ps.length a es.size ep)) (ot:s.heap.get? tp=some (LR ps)) (X:fC prog w s.heap a es ep t ld)
  (q:∀ h',(∀ b u,b≠I->s.heap.get? b=some u->h'.get? b=some u)->Q none { s with heap:=h' }):wpAny (model prog w) A (lR (.ref I)) Q E s:=by
 have hT:s.TypeIs (.ref I) "set_iterator" := ⟨_,o,rfl⟩
 unfold lR
 refine aJ (DX (O2 (name:=bG "__next__") hT lC (yP lC hT HS ?_ (HW _))))
 unfold dZ.«set_iterator.__next__»
 refine aJ (uq (a:=(Value.ref I,[])) rfl ?_)
 refine aJ (Pg o rfl ?_)
 dsimp only
 refine aJ (Iv X.o rfl X.ft ?_)
 rw [if_neg (by simp)]
 refine aJ (v8 ot rfl ?_)
 dsimp only
 have e1:((ps.map fun (i:Nat)=>nA i).toArray)[(ps.length:Int).toNat]? = none:=by
  show ((ps.map fun (i:Nat)=>nA i).toArray)[ps.length]? = _
  rw [V1,gZ,vo (bh _)];rfl
 rw [e1]
 dsimp only
 refine aJ (Dy o (by simp) fun h1 o1 b1=>?_)
 refine aJ (Dy o1 (by simp) fun h2 o2 b2=>?_)
 refine aaV (A:=A.in1) hh fun h3 x kp ty=>?_
 refine aJ (O7 (T := "StopIteration") (b:=true) ty aea (aR (q h3 fun b u nb e=>kp b u ?_)))
 rw [b2.2 b nb,b1.2 b nb];exact e
theorem Zt {ps:List Nat} (hh:A.handled=none) (ne:a≠I) (nt:tp≠I) (hp:ps.Perm (oU es.size)) :
  Walks prog w A I [I,a,tp] [I] es.size (fun i v=>(ordD es ps)[i]? = some v) (fun i h=>h.get? I=some (itO (.ref tp) i a es.size ep)/\h.get? tp=some (LR ps)/\fC prog w h a es ep t ld) where
 sub:=fun b hb=>by simp at hb;simp [hb]
 frame:=fun i h h' st kp=>⟨kp I (by simp) _ st.1,kp tp (by simp) _ st.2.1,st.2.2.keep fun o e=>kp a (by simp) o e⟩
 item:=fun i s Q E hi st q=>by
  have hl:ps.length=es.size:=by rw [hp.length_eq,Ir]
  have lt:i<ps.length:=by lia
  have pm:ps[i]<es.size:=OJ.mp (hp.mem_iff.mp (Dq lt))
  have ex:=getElem?_pos es ps[i] pm
  refine Zq (h0:=es[ps[i]].1) (x:=es[ps[i]].2) st.1 st.2.1 st.2.2 (fY lt) ex fun h' o b=>?_
  have kp:∀ c u,c≠I->s.heap.get? c=some u->h'.get? c=some u:=fun c u nc e=>by rw [b.2 c nc];exact e
  refine q _ h' s.toks ?_ ⟨o,kp tp _ nt st.2.1,st.2.2.keep fun u e=>kp a u ne e⟩ fun c u nc e=>kp c u (by simpa using nc) e
  unfold ordD
  rw [gZ,fY lt]
  show some (es.getD ps[i] (0,.none)).2=_
  rw [Array.getD_eq_getD_getElem?,ex];rfl
 done:=fun s Q E st q=>by
  have hl:ps.length=es.size:=by rw [hp.length_eq,Ir]
  exact Zr hh (by rw [hl];exact st.1) st.2.1 st.2.2 fun h' kp=>q h' s.toks fun c u nc e=>kp c u (by simpa using nc) e
 self:=fun i s Q E st q=>aaU st.1 q
end
end Sx
set_option autoImplicit false
set_option maxRecDepth 100000
namespace Sx
open PySem PyProof.Rows
section
variable {prog:aP} {w:World} {A:bH} {E:Value->Shared->Prop} {s:Shared} {a:Addr} {es:Array (Int × Value)} {ep:Nat} {t:fP}
theorem ajq {Q:Value->Shared->Prop} (hh:A.handled=none) (X:fC prog w s.heap a es ep t (jd w))
  (q:∀ (h':Heap) (d:Drawn) (I:Addr) (fp:List Addr) (ord:List Value) (St:Nat->Heap->Prop),ord.Perm (es.toList.map (·.2))->(∀ b o,s.heap.get? b=some o->h'.get? b=some o)->s.heap.objs.size<=I->(∀ b∈fp,b=a\/s.heap.objs.size<=b) ->
   (∀ B:bH,B.handled=none->Walks prog w B I fp [I] es.size (fun i v=>ord[i]? = some v) St)->St 0 h'->Q (.ref I) { s with heap:=h',drawn:=d }):wpAny (model prog w) A (wA (.ref a)) Q E s:=by
 have la:=bR X.o
 refine Wo X.ty F.slot_set_iter (yP F.slot_set_iter X.ty ahm ?_ (F.args_set_iter_1 _))
 unfold dZ.«frozenset.__iter__»
 refine aJ (uq (a:=a) rfl ?_)
 refine aJ ?_
 unfold ama
 refine aJ (Iv X.o rfl X.ft (aR ?_))
 refine aJ ?_
 unfold setDrawn
 refine aJ (DG X.o rfl X.ft ?_);dsimp only
 unfold Pq
 refine aJ (aJ (DN (aR (aR ?_))))
 show wpAny _ _ (if (!w.params.followText "set-order" && (!t.plain && decide (es.size>1)))=true then _ else _) _ _ _
 have ways:∀ (ord:List Value) (sl:Nat->Nat),sl 0=0->ord.Perm (es.toList.map (·.2))->(∀ (s:Shared) (i:Nat),fC prog w s.heap a es ep t (jd w)->i<=es.size->Fw prog w s a (sl i) i ep ((ord[i]?).map fun v=>(v,sl (i+1)))) ->
   Q (.ref s.heap.objs.size) { s with heap:=s.heap.push (itO (.int 0 0) 0 a es.size ep) }:=fun ord sl h0 hp N=>by
  refine q _ s.drawn s.heap.objs.size [s.heap.objs.size,a] ord (fun i h=>h.get? s.heap.objs.size=some (itO (.int (sl i) 0) i a es.size ep)/\fC prog w h a es ep t (jd w)) hp (fun b o e=>dX _ e) (bh _) ?_ (fun B hB=>ahn hB (cM la) (by rw [hp.length_eq];simp) N)
   ⟨by rw [h0];exact eU _ rfl,X.keep fun o e=>dX _ e⟩
  intro b m
  rcases cP.mp m with rfl | m
  ·exact .inr (bh _)
  ·exact .inl (dh.mp m)
 have fin:∀ {Q':Value->Shared->Prop},Q' (.ref s.heap.objs.size) { s with heap:=s.heap.push (itO (.int 0 0) 0 a es.size ep) }->wpAny (model prog w) A.in1 (setEpoch a >>= fun e=>W8 "set_iterator" [nA 0,nA 0,.ref a,nA es.size,nA e] >>= fun r=>ret r) (fun fin s'=>∃ v,fin = .done (.ret v)/\∃ T' r,s'.TypeIs v T'/\Pn (.type T') "__next__" = pure (some r)/\Q' v s') E s:=fun {Q'} z=>by
  refine aJ (ad2 X.o rfl X.ft ?_)
  unfold W8
  refine aJ (Ax (aR ⟨_,rfl,"set_iterator",_,⟨_,eU _ rfl,rfl⟩,lC.lookup,?_⟩))
  exact z
 cases bt:w.params.followText "set-order" with
 | true =>
  rw [if_neg (by simp)]
  refine aJ (aR (fin ?_))
  have pp:=acD (w.params.setOrder a ep) es
  refine ways ((Pr (w.params.setOrder a ep) es).toList.map (·.2)) (fun _=>0) rfl (pp.map _) fun s i X' _=>?_
  have:=acH X' bt i
  rw [gZ,qw,afx]
  exact this
 | false =>
  have hl:jd w=true:=by unfold jd;rw [bt];rfl
  cases pl:(!t.plain && decide (es.size>1)) with
  | false =>
   rw [if_neg (by simp)]
   refine aJ (aR (fin ?_))
   refine ways (es.toList.map (·.2)) (slotAt t) rfl .rfl fun s i X' hi=>?_
   have:=Zo X' bt hl pl hi
   rw [gZ,qw,afx]
   exact this
  | true =>
   rw [if_pos (by simp)]
   refine aJ (aaT es.size (oU es.size) _ (Ir) fun ps d hp=>aJ ?_)
   have zl:(ps.map fun (i:Nat)=>nA i).length<=sizeLine:=by rw [aZ,hp.length_eq,Ir];exact DK X.few
   refine wpAny_newTuple ?_ zl
   have X1:fC prog w (s.heap.push (LR ps)) a es ep t (jd w):=X.keep fun o e=>dX _ e
   refine aJ (ad2 (s:={ s with heap:=s.heap.push (LR ps),drawn:=d }) X1.o rfl X1.ft ?_)
   unfold W8
   refine aJ (Ax (aR ⟨_,rfl,"set_iterator",_,⟨_,eU _ rfl,rfl⟩,lC.lookup,?_⟩))
   have zt:(s.heap.push (LR ps)).objs.size=s.heap.objs.size+1:=wF ..
   refine q _ d (s.heap.push (LR ps)).objs.size [(s.heap.push (LR ps)).objs.size,a,s.heap.objs.size] (ordD es ps) (fun i h=>h.get? (s.heap.push (LR ps)).objs.size=some (itO (.ref s.heap.objs.size) i a es.size ep)/\h.get? s.heap.objs.size=some (LR ps)/\fC prog w h a es ep t (jd w)) (acI hp) (fun b o e=>dX _ (dX _ e)) (by rw [zt];exact rO _) ?_
    (fun B hB=>Zt hB (by rw [zt];exact cM (Az la)) (by rw [zt];exact cM (wI _)) hp) ⟨eU _ rfl,dX _ (eU _ rfl),X1.keep fun o e=>dX _ e⟩
   intro b m
   rcases cP.mp m with rfl | m
   ·exact .inr (by rw [zt];exact rO _)
   rcases cP.mp m with rfl | m
   ·exact .inl rfl
   ·exact .inr (by rw [dh.mp m];exact bh _)
end
end Sx
set_option autoImplicit false
set_option maxRecDepth 100000
namespace Sx
open PySem PyProof.Rows
section
variable {prog:aP} {w:World} {A:bH} {E:Value->Shared->Prop} {s:Shared} {r:Addr} {es:Array (Int × Value)} {ep:Nat} {t:fP}
theorem aho {Q:Bool->Shared->Prop} (hT:s.TypeIs (.ref r) "set") (h:Q false s):wpAny (model prog w) A (Qu (.ref r)) Q E s:=by
 unfold Qu;refine aJ (O8 hT F.slot_set_len.lookup ?_)
 generalize hid:("set.__len__" : String)=id0
 wp_delta;rw [show splitId id0=some ("set","__len__") from by subst hid;decide +kernel];subst hid
 refine aJ (O7 (T := "set") (b:=true) hT (by rw [Pb];kernel_rfl) ?_);refine um (fun hab=>absurd hab (by decide)) (fun _=>?_)
 refine um (fun _=>?_) (fun hab=>absurd tb_g% hab);exact aJ (IV hT (aR h))
noncomputable def Kq (acc:Array Value) (c:Nat):Obj:={ cls:=.type "list",dict:=none,data:=.seq acc c,slots:=#[] }
theorem Uu {Q:List Value->Shared->Prop} (hh:A.handled=none) (X:fC prog w s.heap r es ep t (jd w))
  (q:∀ (h':Heap) (tk:Nat) (d:Drawn) (acc:List Value),acc.Perm (es.toList.map (·.2))->(∀ b o,s.heap.get? b=some o->h'.get? b=some o)->Q acc { s with heap:=h',toks:=tk,drawn:=d }) :
  wpAny (model prog w) A (Jg (.ref r)) Q E s:=by
 have lr:=bR X.o
 have hn:=DK X.few
 unfold Jg
 refine aJ (Ws (vq F.entry_proto_collect ?_));rw [yS F.plain_proto_collect _]
 show wpAny _ A.in1 (Jf [] >>= fun l=>again (.builtin "list.__iadd__" ⟨[l,.ref r],[]⟩)) _ _ s;refine aJ (Ax ?_)
 refine aR ⟨oW F.plain_list_iadd _,vq F.entry_list_iadd ?_⟩;rw [yS F.plain_list_iadd _]
 have hS:(s.heap.push (Kq #[] 0)).get? s.heap.objs.size=some (Kq #[] 0):=eU _ rfl
 have X1:fC prog w (s.heap.push (Kq #[] 0)) r es ep t (jd w):=X.keep fun o e=>dX _ e
 have z1:(s.heap.push (Kq #[] 0)).objs.size=s.heap.objs.size+1:=wF ..
 show wpAny _ A.in1 (Bb (.ref s.heap.objs.size) (.ref r) (.ref s.heap.objs.size)) _ _ { s with heap:=s.heap.push (Kq #[] 0) }
 unfold Bb
 refine aJ (IV (T := "set") (fC.ty (s:={ s with heap:=s.heap.push (Kq #[] 0) }) X1) ?_)
 have h1:Qv (.ref s.heap.objs.size) (.ref r)=false:=by simp [Qv,o9 lr]
 rw [if_neg (by rw [h1];decide)]
 refine aJ (ajq (A:=A.in1) (s:={ s with heap:=s.heap.push (Kq #[] 0) }) hh X1 fun h' d I fp ord St hp kp hI hfp W st=>?_)
 have hS2:h'.get? s.heap.objs.size=some (Kq #[] 0):=kp _ _ hS
 have X2:fC prog w h' r es ep t (jd w):=X1.keep fun o e=>kp r o e
 have nI:s.heap.objs.size≠I:=by rw [z1] at hI;lia
 have nf:s.heap.objs.size∉fp:=fun m=>by
  rcases hfp _ m with e | e
  ·exact o9 lr e
  ·rw [z1] at e;lia
 have hlen:ord.length=es.size:=by rw [hp.length_eq];simp
 have key:∀ (h2:Heap) (c:Nat),St 0 h2->(∀ b o,b≠s.heap.objs.size->h'.get? b=some o->h2.get? b=some o)->h2.get? s.heap.objs.size=some (Kq #[] c) ->
   f9 (model prog w) A (.builtin "list.extend.loop" ⟨[.ref s.heap.objs.size,.ref I,.ref s.heap.objs.size],[]⟩) (fun res s'=>∃ (h3:Heap) (tk:Nat) (acc:Array Value) (c':Nat),res = .ok (.ret (.ref s.heap.objs.size))/\s'={ s with heap:=h3,toks:=tk,drawn:=d }/\acc.toList=ord/\h3.get? s.heap.objs.size=some (Kq acc c')/\∀ b o,s.heap.get? b=some o->h3.get? b=some o)
    { s with heap:=h2,drawn:=d }:=fun h2 c st2 kp2 hS3=>by
  refine adX (W A.in1 hh).toS hn s.heap.objs.size nf (.ref s.heap.objs.size) es.size 0 _ #[] c rfl (dF _) st2 hS3 (afV _) fun s' acc c' hm hS' hacc=>?_
  obtain ⟨h3,g3,d3,tk3,o3⟩:=s'
  have e1:g3=s.gens:=hm.gens
  have e2:d3=d:=hm.drawn
  have e3:o3=s.os:=hm.os
  subst e1;subst e2;subst e3
  refine ⟨h3,tk3,acc,c',rfl,rfl,?_,hS',fun b o e=>hm.heap b o (fun m=>?_) (kp2 b o (cM (bR e)) (kp b o (dX _ e)))⟩
  ·apply List.ext_getElem?
   intro i
   rw [qw]
   rcases ig i es.size with l | l
   ·have e:=getElem?_pos acc i (by rw [hacc.1];exact l)
    rw [hacc.2 i _ e,e]
   ·rw [getElem?_neg acc i (by rw [hacc.1];lia),vo tb_g%]
  ·have lb:=bR e
   rcases cP.mp m with rfl | m
   ·exact nF _ lb
   ·have m:b=I:=dh.mp m
    have hI:s.heap.objs.size+1<=I:=by rw [<- z1];exact hI
    have lb:I<s.heap.objs.size:=m ▸ lb
    exact absurd lb (Xr.mpr (Nat.le_of_succ_le hI))
 have fin:∀ (res:lU) (s':Shared),(∃ (h3:Heap) (tk:Nat) (acc:Array Value) (c':Nat),res = .ok (.ret (.ref s.heap.objs.size))/\s'={ s with heap:=h3,toks:=tk,drawn:=d }/\acc.toList=ord/\h3.get? s.heap.objs.size=some (Kq acc c')/\∀ b o,s.heap.get? b=some o->h3.get? b=some o) ->
   ∃ v,res = .ok (.ret v)/\wpAny (model prog w) A (match v with
    | .ref a=>load a >>= fun o=>match o.data with
     | .seq xs _=>pure xs.toList
     | _=>IW "internal:collect"
    | _=>IW "internal:collect") Q E s':=by
  rintro res s' ⟨h3,tk,acc,c',rfl,rfl,ea,hS',kp3⟩
  refine ⟨_,rfl,aJ (WQ hS' (aR ?_))⟩
  exact q h3 tk d acc.toList (by rw [ea];exact hp) kp3
 refine aJ (oh (aho (fC.ty (s:={ s with heap:=h',drawn:=d }) X2) ?_))
 refine um (fun _=>?_) (fun _=>?_)
 ·refine aJ (Jb (aJ ?_))
  show wpAny _ _ (W9 s.heap.objs.size (·.push .none) >>= fun _=>W9 s.heap.objs.size (·.pop)) _ _ _
  refine aJ (DR hS2 rfl ?_)
  have hS3:=Jq (pq (·.push Value.none)) hS2 rfl
  refine DR (hz:=by seq_fits) hS3 rfl ?_
  have hS4:=Jq (pq (·.pop)) hS3 rfl
  have ot:∀ b o,b≠s.heap.objs.size->h'.get? b=some o->((h'.update s.heap.objs.size (pq (·.push Value.none))).update s.heap.objs.size (pq (·.pop))).get? b=some o:=fun b o nb e=>(yQ _ _ (aU nb)).trans ((yQ _ _ (aU nb)).trans e)
  refine aR ⟨oW F.plain_extend_loop _,uo (key _ _ ((W A hh).frame 0 _ _ st fun b m o e=>ot b o (fun z=>nf (by rw [<- z];exact m)) e) ot hS4) fun res s' z=>?_⟩
  obtain ⟨v,rfl,g⟩:=fin res s' z
  exact g
 ·refine aR ⟨oW F.plain_extend_loop _,uo (key h' 0 st (fun b o _ e=>e) hS2) fun res s' z=>?_⟩
  obtain ⟨v,rfl,g⟩:=fin res s' z
  exact g
end
end Sx
namespace L2
open PySem PySem.Spec PyProof.Rows
section
variable {X:Cx}
noncomputable def SetO (P:aP) (w:World) (a:Addr) (ns:List Int):HO:=.ext fun h=>∃ es ep t,Sx.fC P w h a es ep t (Sx.jd w)/\(Sx.keys es).Perm (Sx.dd ns)
theorem Inv.drew {pins:List (Addr × Obj)} {σ:List (Option V)} {H:Hp} {s:Shared} (d:Drawn) (I:Inv X pins σ H s):Inv X pins σ H { s with drawn:=d }:=⟨I.ok,I.os,I.bare,I.base,I.loc,I.cell,I.free,I.oA,I.pin,I.hok,I.len⟩
noncomputable def rSetC (P:aP) (w:World) (K:aW):List V->Hp->VK->Prop:=fun xs H Q=>∃ a ns,xs=[V.ref a]/\SqL K H a (ns.map V.int)/\ns.length<1000/\∀ l:Addr,H l=none->Q (.ref l) (upd H l (SetO P w l ns))
theorem acJ (hc:X.calm=true):gP X (.type "set") (rSetC X.prog X.w X.K):=by
 walk_at "f"
 obtain ⟨a,ns,rfl,ha,few,q⟩:=h
 obtain ⟨u,rfl,ru⟩:=vals1 r
 cases ru
 obtain ⟨its,rv,p,hz⟩:=I.list ha
 have hI:=intsAre_of rv
 have hl:its.length=ns.length:=by rw [<- rv.length,aZ]
 have hs:its.toArray.size=its.length:=cW
 refine Sx.ahl (items:=its.toArray) (ns:=ns) (I.ok.hd hc) p.isList (by simpa using hI) (by unfold scanBound;lia) fun h' tk es ep t x pk kp=>?_
 refine ⟨.ref s.heap.objs.size,_,I.laid (t':=tk) kp (bh _) (show dG X.prog X.w _ h' s.heap.objs.size (SetO X.prog X.w s.heap.objs.size ns) from ⟨⟨es,ep,t,x,pk⟩,⟨_,x.o⟩,fun h1 h2 ⟨e,p1,t1,y,pe⟩ k=>⟨e,p1,t1,y.keep k,pe⟩⟩),rfl,q _ (I.hok.fresh (bh _))⟩
noncomputable def ang (P:aP) (w:World):List V->Hp->VK->Prop:=fun xs H Q=>∃ a ns,xs=[V.ref a]/\H a=some (SetO P w a ns)/\(Sx.dd ns).length<64/\∀ (l:Addr) (ns':List Int),H l=none->ns'.Perm (Sx.dd ns)->ns'.Pairwise (· <= ·)->Q (.ref l) (upd H l (.lst (ns'.map V.int)))
theorem Nm {P:aP} {w:World}:∀ {es:List (Int × Value)},Py (iQ P w) es->IntsAre (es.map (·.2)) (es.map fun e=>Sx.iv e.2)
 | [],_=>.nil
 | (h,v)::r,e=>by
  obtain ⟨⟨k,hk,_⟩,hs⟩:=e (h,v) eN
  have hk:Es k v=true:=hk
  cases v <;> first | (simp [Es] at hk;done) | skip
  exact .cons _ _ (Nm fun x m=>e x (fB _ m))
theorem IntsAre.anh {us vs:List Value} {ns:List Int} (h:IntsAre vs ns) (p:us.Perm vs):∃ ms,IntsAre us ms/\ms.Perm ns:=by
 induction p generalizing ns with
 | nil=>exact ⟨ns,h,.rfl⟩
 | cons x _ ih =>
  cases h with
  | cons n t h =>
   obtain ⟨ms,a,b⟩:=ih h
   exact ⟨n::ms,.cons n t a,b.cons n⟩
 | swap x y l =>
  cases h with
  | cons n t h =>
   cases h with
   | cons m u h=>exact ⟨m::n::_,.cons m u (.cons n t h),.swap ..⟩
 | trans _ _ ih1 ih2 =>
  obtain ⟨ms,a,b⟩:=ih2 h
  obtain ⟨ks,c,d⟩:=ih1 a
  exact ⟨ks,c,d.trans b⟩
theorem Zu (hc:X.calm=true):gP X (.builtin "sorted") (ang X.prog X.w):=by
 walk_at "f"
 obtain ⟨a,ns,rfl,ha,f64,q⟩:=h
 obtain ⟨u,rfl,ru⟩:=vals1 r
 cases ru
 obtain ⟨⟨es,ep,t,x,pk⟩,_,_⟩:=I.hok a _ ha
 apply afr Yh Ye Yg (afp _);unfold dZ.«sorted»
 apply aJ (m:=WT "sorted" 1 1 _);apply aR
 apply aJ;refine Sx.Uu (A:=X.A.in1) (I.ok.hd hc) x fun h1 tk d acc pa kp=>?_
 obtain ⟨ms,hI,pm⟩:=IntsAre.anh (Nm x.el) pa
 have hz:acc.length<=sizeLine:=by rw [pa.length_eq,aZ,qx];exact DK x.few
 have h64:acc.length<64:=by
  have e1:=pa.length_eq
  have e2:=pk.length_eq
  unfold Sx.keys at e2
  rw [aZ] at e1 e2
  lia
 apply aJ;refine Wv ?_ hz
 have hoL:(h1.push (wO "list" acc.toArray 0)).get? h1.objs.size=some (wO "list" acc.toArray 0):=eU _ rfl
 apply aJ;refine oh (yP X8 ⟨_,hoL,rfl⟩ X7 (afk hoL hI h64 fun out ns' a1 a2 a3=>⟨_,rfl,?_⟩) (afl _))
 refine aR ⟨_,rfl,?_⟩
 obtain ⟨e,he⟩:=Yc (vs:=acc) (out:=out) hoL
 have hb:∀ b ob,s.heap.get? b=some ob->b<h1.objs.size:=fun b ob e'=>bR (kp b ob e')
 have pf:ns'.Perm (Sx.dd ns):=(a2.trans pm).trans pk
 refine ⟨.ref h1.objs.size,_,(I.drew d).Gw (t':=tk) (fun b ob e'=>?_) (fun b ob e'=>cM (hb b ob e')) (show dG X.prog X.w _ _ h1.objs.size (.lst (ns'.map V.int)) from ⟨?_,out.toList,e,oN a1,by simpa using he⟩),rfl,q _ ns' (I.none_of fun b ob e'=>cM (hb b ob e')) pf a3⟩
 ·have hlt:=hb b ob e'
  rw [Yb (cM hlt) (by rw [Qx];exact Az hlt)];exact dX _ (kp b ob e')
 ·rw [aZ,(a2.trans pm).length_eq,aZ,qx];exact DK x.few
end
end L2
set_option autoImplicit false
namespace RG
noncomputable abbrev Ls:=List (List Int)
noncomputable def Sd (l:List Int):Prop:=l.Pairwise (· <= ·)
noncomputable def srt (ns:List Int):List Int:=ns.mergeSort fun a b=>decide (a<=b)
theorem mq:∀ {xs ys:List Int},xs.Perm ys->xs.Pairwise (· <= ·)->ys.Pairwise (· <= ·)->xs=ys
 | [],ys,p,_,_=>by rw [adQ.mp p]
 | x::xs,[],p,_,_=>absurd p (by simp)
 | x::xs,y::ys,p,h1,h2=>by
  have a1:=lK.mp h1
  have a2:=lK.mp h2
  have e:x=y:=by
   have m1:x∈y::ys:=p.mem_iff.mp eN
   have m2:y∈x::xs:=p.mem_iff.mpr eN
   rcases cP.mp m1 with z | z
   ·exact z
   ·rcases cP.mp m2 with z' | z'
    ·exact z'.symm
    ·exact aeW (a1.1 y z') (a2.1 x z)
  subst e
  rw [mq (afE p) a1.2 a2.2]
theorem iH (ns:List Int):(srt ns).Perm ns:=Ov _ _
theorem uM (ns:List Int):Sd (srt ns):=by
 have:=VN (le:=fun a b:Int=>decide (a<=b)) (fun a b c h1 h2=>by simp only [decide_eq_true_eq] at *; lia) (fun a b=>by simp only [Xw,decide_eq_true_eq];lia) ns
 exact this.imp fun h=>of_decide_eq_true h
theorem rZ {ns ms:List Int} (p:ms.Perm ns) (h:ms.Pairwise (· <= ·)):ms=srt ns:=mq (p.trans (iH ns).symm) h (uM ns)
theorem fX (ns:List Int):(srt ns).length=ns.length:=(iH ns).length_eq
theorem mJ {z:Int} {ns:List Int}:z∈srt ns↔z∈ns:=(iH ns).mem_iff
theorem ahp {ns:List Int} (h:Sd ns):srt ns=ns:=(rZ (afF _) h).symm
noncomputable def pick (o:Bool):List Int->List Int
 | a::b::r=>(if o then b else a)::pick o r
 | _=>[]
noncomputable def lft:List Int->List Int
 | _::_::r=>lft r
 | l=>l
theorem yt:∀ l:List Int,(lft l).length=l.length % 2
 | []=>rfl
 | [_]=>rfl
 | _::_::r=>by
  have:=yt r
  show (lft r).length=(r.length+1+1) % 2
  lia
theorem mW (o:Bool):∀ l:List Int,(pick o l).length=l.length / 2
 | []=>by simp [pick]
 | [_]=>by simp [pick]
 | _::_::r=>by
  have:=mW o r
  show (pick o r).length+1=(r.length+1+1) / 2
  lia
theorem Uv:∀ l:List Int,lft l=l.drop (l.length-l.length % 2)
 | []=>rfl
 | [_]=>rfl
 | a::b::r=>by
  have:=Uv r
  show lft r=(a::b::r).drop (r.length+1+1-(r.length+1+1) % 2)
  rw [show r.length+1+1-(r.length+1+1) % 2=(r.length-r.length % 2)+1+1 by lia,adA,adA]
  exact this
theorem aaW {z:Int}:∀ {l:List Int},z∈lft l->z∈l
 | [],h=>h
 | [_],h=>h
 | _::_::r,h=>fB _ (fB _ (aaW (l:=r) h))
theorem Uw {o:Bool} {z:Int}:∀ {l:List Int},z∈pick o l->z∈l
 | [],h=>nomatch h
 | [_],h=>nomatch h
 | a::b::r,h=>by
  rcases cP.mp h with e | e
  ·cases o
   ·rw [e];exact eN
   ·rw [e];exact fB _ eN
  ·exact fB _ (fB _ (Uw (l:=r) e))
theorem ahq:∀ {l:List Int},Sd l->Sd (lft l)
 | [],h=>h
 | [_],h=>h
 | _::_::r,h=>ahq (l:=r) (lK.mp (lK.mp h).2).2
noncomputable def cnt (x:Int) (l:List Int):Nat:=(l.filter fun z=>decide (z<=x)).length
noncomputable def val:Ls->Nat
 | []=>0
 | l::r=>l.length+2*val r
noncomputable def nr (x:Int):Ls->Nat
 | []=>0
 | l::r=>cnt x l+2*nr x r
noncomputable def pot (h:Nat):Ls->Nat
 | []=>0
 | l::r=>h*2 ^ h*l.length+pot (h+1) r
theorem Zv (ls:Ls):val ls=(ls.headD []).length+2*val ls.tail:=by cases ls <;> rfl
theorem ahr (h:Nat) (ls:Ls):pot h ls=h*2 ^ h*(ls.headD []).length+pot (h+1) ls.tail:=by
 cases ls
 ·show 0=h*2 ^ h*0+0;rw [Jv]
 ·rfl
theorem Ry {P:List Int->Prop} {ls:Ls} (h:∀ l∈ls,P l) (h0:P []):P (ls.headD []):=by
 cases ls
 ·exact h0
 ·exact h _ eN
theorem Zw {P:List Int->Prop} {ls:Ls} (h:∀ l∈ls,P l):∀ l∈ls.tail,P l:=fun l hl=>h l (ady hl)
noncomputable def gG (t:Int) (ls:Ls) (w:Nat):Ls :=
 if w=0 then ls else (if w % 2=1 then srt (ls.headD []++[t]) else ls.headD [])::gG t ls.tail (w / 2)
termination_by w
decreasing_by lia
theorem iB (t:Int) (ls:Ls):gG t ls 0=ls:=by rw [gG,if_pos rfl]
theorem iK {w:Nat} (t:Int) (ls:Ls) (h:w≠0):gG t ls w=(if w % 2=1 then srt (ls.headD []++[t]) else ls.headD [])::gG t ls.tail (w / 2):=by rw [gG,if_neg h]
theorem acK {w:Nat} (t:Int) (h:w≠0):gG t [[]] w=gG t [] w:=by rw [iK t _ h,iK t [] h];rfl
theorem Np (t:Int):∀ (w:Nat) (ls:Ls),val (gG t ls w)=val ls+w:=by
 intro w
 induction w using Jt with
 | _ w ih =>
  intro ls
  by_cases h:w=0
  ·rw [h,iB];rfl
  ·rw [iK t ls h]
   show lQ _+2*val _=_
   rw [ih (w / 2) tb_g%,Zv ls]
   split
   ·rw [fX,cV];show _+1+_=_;lia
   ·lia
theorem acL (t:Int):∀ (w:Nat) (h:Nat) (ls:Ls),pot h ls<=pot h (gG t ls w):=by
 intro w
 induction w using Jt with
 | _ w ih =>
  intro h ls
  by_cases hw:w=0
  ·rw [hw,iB];exact bh _
  ·rw [iK t ls hw,ahr h ls]
   show _<=h*2 ^ h*lQ _+pot (h+1) _
   have:=ih (w / 2) tb_g% (h+1) ls.tail
   refine aeA (aew _ ?_) this
   split
   ·rw [fX,cV];lia
   ·exact bh _
theorem Nq {P:List Int->Prop} (t:Int) (h0:P []) (h1:∀ l,P l->P (srt (l++[t]))):∀ (w:Nat) (ls:Ls),(∀ l∈ls,P l)->∀ l∈gG t ls w,P l:=by
 intro w
 induction w using Jt with
 | _ w ih =>
  intro ls hl
  by_cases hw:w=0
  ·rw [hw,iB];exact hl
  ·rw [iK t ls hw]
   intro l m
   rcases cP.mp m with e | e
   ·rw [e]
    split
    ·exact h1 _ (Ry hl h0)
    ·exact Ry hl h0
   ·exact ih (w / 2) tb_g% ls.tail (Zw hl) l e
noncomputable def Full (ls:Ls):Prop:=∀ l,ls.getLast? = some l->l≠[]
theorem yu {l:List Int} {ls:Ls} (h:Full ls) (h0:ls=[]->l≠[]):Full (l::ls):=by
 intro m hm
 cases ls with
 | nil=>simp at hm;rw [<- hm];exact h0 rfl
 | cons a r=>exact h m (by rw [adt] at hm;exact hm)
theorem tK {ls:Ls} (h:Full ls):Full ls.tail:=by
 intro m hm
 cases ls with
 | nil=>exact nomatch hm
 | cons a r =>
  cases r with
  | nil=>exact nomatch hm
  | cons b r=>exact h m (by rw [adt];exact hm)
theorem Ux {t:Int} {w:Nat} {ls:Ls} (h:w≠0):gG t ls w≠[]:=by rw [iK t ls h];exact vp _ _
theorem acM {t:Int} {w:Nat} {ls:Ls} (h:gG t ls w=[]):w=0/\ls=[]:=by
 by_cases hw:w=0
 ·rw [hw,iB] at h;exact ⟨hw,h⟩
 ·exact absurd h (Ux hw)
theorem Zx (t:Int):∀ (w:Nat) (ls:Ls),Full ls->Full (gG t ls w):=by
 intro w
 induction w using Jt with
 | _ w ih =>
  intro ls hl
  by_cases hw:w=0
  ·rw [hw,iB];exact hl
  ·rw [iK t ls hw]
   refine yu (ih (w / 2) tb_g% _ (tK hl)) fun e=>?_
   have hw2:=(acM e).1
   rw [if_pos (show w % 2=1 by lia)]
   intro z
   have:=congrArg lQ z
   rw [fX,cV] at this
   exact absurd this (by show ¬ _+1=0;lia)
inductive Stl (room:Int):Nat->Int->Int->Int->Ls->Ls->Int->Int->Int->Prop
 | nil (h:Nat) (tn ov un:Int):Stl room h tn ov un [] [] tn ov un
 | keep {h:Nat} {tn ov un:Int} {l:List Int} {ls out:Ls} {tn' ov' un':Int}:(l.length:Int)<=room->Stl room (h+1) tn ov un ls out tn' ov' un'->Stl room h tn ov un (l::ls) (l::out) tn' ov' un'
 | turn {h:Nat} {tn ov un:Int} {l:List Int} {ls out:Ls} {tn' ov' un':Int}:room<(l.length:Int) ->
   Stl room (h+1) (tn+1) (if tn % 2=0 then ov+2 ^ h else ov) (if tn % 2=0 then un else un+2 ^ h) (srt (ls.headD []++pick (decide (tn % 2=1)) l)::ls.tail) out tn' ov' un'->Stl room h tn ov un (l::ls) (lft l::out) tn' ov' un'
theorem Stl.uniq {room:Int} {h:Nat} {tn ov un:Int} {ls out:Ls} {tn' ov' un':Int} (a:Stl room h tn ov un ls out tn' ov' un'):∀ {out2:Ls} {tn2 ov2 un2:Int},Stl room h tn ov un ls out2 tn2 ov2 un2->out2=out/\tn2=tn'/\ov2=ov'/\un2=un':=by
 induction a with
 | nil=>intro _ _ _ _ b;cases b;exact ⟨rfl,rfl,rfl,rfl⟩
 | keep hl _ ih =>
  intro _ _ _ _ b
  cases b with
  | keep _ b=>obtain ⟨e1,e2,e3,e4⟩:=ih b;exact ⟨by rw [e1],e2,e3,e4⟩
  | turn hg _=>lia
 | turn hl _ ih =>
  intro _ _ _ _ b
  cases b with
  | keep hg _=>lia
  | turn _ b=>obtain ⟨e1,e2,e3,e4⟩:=ih b;exact ⟨by rw [e1],e2,e3,e4⟩
theorem Stl.val {room:Int} {h:Nat} {tn ov un:Int} {ls out:Ls} {tn' ov' un':Int} (a:Stl room h tn ov un ls out tn' ov' un'):val out=val ls:=by
 induction a with
 | nil=>rfl
 | keep _ _ ih=>show _+2*_=_+2*_;rw [ih]
 | @turn _ _ _ _ l ls _ _ _ _ _ _ ih =>
  show lQ _+2*_=_+2*_
  rw [ih,yt]
  show _+2*(lQ _+2*RG.val ls.tail)=_
  rw [fX,cV,mW,Zv ls]
  lia
theorem Stl.all {P:List Int->Prop} (h0:P []) (hL:∀ l,P l->P (lft l)) (hP:∀ l m o,P l->P m->P (srt (l++pick o m))) {room:Int} {h:Nat} {tn ov un:Int} {ls out:Ls} {tn' ov' un':Int} (a:Stl room h tn ov un ls out tn' ov' un'):(∀ l∈ls,P l)->∀ l∈out,P l:=by
 induction a with
 | nil=>exact id
 | keep _ _ ih =>
  intro hl l m
  rcases cP.mp m with e | e
  ·rw [e];exact hl _ eN
  ·exact ih (fun l hm=>hl l (fB _ hm)) l e
 | @turn _ _ _ _ l0 ls _ _ _ _ _ _ ih =>
  intro hl l m
  have h1:P l0:=hl _ eN
  have h2:∀ l∈ls,P l:=fun l hm=>hl l (fB _ hm)
  rcases cP.mp m with e | e
  ·rw [e];exact hL _ h1
  ·refine ih (fun l hm=>?_) l e
   rcases cP.mp hm with z | z
   ·rw [z];exact hP _ _ _ (Ry h2 h0) h1
   ·exact Zw h2 l z
theorem Stl.small {room:Int} (r1:1<=room) {h:Nat} {tn ov un:Int} {ls out:Ls} {tn' ov' un':Int} (a:Stl room h tn ov un ls out tn' ov' un'):∀ l∈out,(l.length:Int)<=room:=by
 induction a with
 | nil=>exact fun _ h=>nomatch h
 | keep hl _ ih =>
  intro l m
  rcases cP.mp m with e | e
  ·rw [e];exact hl
  ·exact ih l e
 | turn _ _ ih =>
  intro l m
  rcases cP.mp m with e | e
  ·rw [e,yt];lia
  ·exact ih l e
theorem Stl.empty {room:Int} {h:Nat} {tn ov un:Int} {ls out:Ls} {tn' ov' un':Int} (a:Stl room h tn ov un ls out tn' ov' un') (e:out=[]):ls=[]:=by
 cases a with
 | nil=>rfl
 | keep _ _=>cases e
 | turn _ _=>cases e
theorem Stl.full {room:Int} (r1:1<=room) {h:Nat} {tn ov un:Int} {ls out:Ls} {tn' ov' un':Int} (a:Stl room h tn ov un ls out tn' ov' un'):Full ls->Full out:=by
 induction a with
 | nil=>exact id
 | @keep _ _ _ _ l ls out _ _ _ _ a ih =>
  intro f
  refine yu (ih (tK f)) fun e=>?_
  have:=a.empty e
  subst this
  exact f l rfl
 | @turn _ _ _ _ l ls out _ _ _ hl a ih =>
  intro f
  refine yu (ih (yu (tK (tK f)) fun _ z=>?_)) fun e=>?_
  ·have:=congrArg lQ z
   rw [fX,cV,mW] at this
   have:(_:Nat)+l.length / 2=0:=this
   lia
  ·exact absurd (a.empty e) (vp _ _)
theorem Stl.mono {room:Int} {h:Nat} {tn ov un:Int} {ls out:Ls} {tn' ov' un':Int} (a:Stl room h tn ov un ls out tn' ov' un'):tn<=tn'/\ov<=ov'/\un<=un':=by
 induction a with
 | nil=>exact ⟨dY _,dY _,dY _⟩
 | keep _ _ ih=>exact ih
 | @turn h tn ov un _ _ _ _ _ _ _ _ ih =>
  have p:(0:Int)<2 ^ h:=Eo (by decide)
  obtain ⟨i1,i2,i3⟩:=ih
  refine ⟨by lia,?_,?_⟩
  ·split at i2 <;> lia
  ·split at i3 <;> lia
theorem Stl.pot {room:Int} (ev:room % 2=0) {h:Nat} {tn ov un:Int} {ls out:Ls} {tn' ov' un':Int} (a:Stl room h tn ov un ls out tn' ov' un'):room*(ov'+un'-ov-un)+pot h ls<=pot h out:=by
 induction a with
 | nil h tn ov un =>
  rw [show ov+un-ov-un=0 by lia,Int.mul_zero]
  lia
 | @keep h _ _ _ l ls out _ _ _ _ _ ih =>
  show _+((h*2 ^ h*l.length+RG.pot (h+1) ls:Nat):Int)<=((h*2 ^ h*l.length+RG.pot (h+1) out:Nat):Int)
  lia
 | @turn h tn ov un l ls out tn' ov' un' hl _ ih =>
  show _+((h*2 ^ h*l.length+RG.pot (h+1) ls:Nat):Int)<=((h*2 ^ h*(lft l).length+RG.pot (h+1) out:Nat):Int)
  have e:RG.pot (h+1) (srt (ls.headD []++pick (decide (tn % 2=1)) l)::ls.tail)=RG.pot (h+1) ls+(h+1)*2 ^ (h+1)*(l.length / 2):=by
   show (h+1)*2 ^ (h+1)*lQ _+RG.pot (h+1+1) ls.tail=_
   rw [fX,cV,mW,ahr (h+1) ls,wL]
   lia
  rw [e] at ih
  have d:(if tn % 2=0 then ov+2 ^ h else ov)+(if tn % 2=0 then un else un+2 ^ h)=ov+un+2 ^ h:=by split <;> lia
  have ih2:room*(ov'+un'-(ov+un+2 ^ h))+((RG.pot (h+1) ls+(h+1)*2 ^ (h+1)*(l.length / 2):Nat):Int)<=RG.pot (h+1) out:=by
   rw [<- d]
   refine Int.le_trans (Int.le_of_eq ?_) ih
   congr 2
   lia
  rw [yt]
  have m1:room*(ov'+un'-(ov+un+2 ^ h))=room*(ov'+un'-ov-un)-room*2 ^ h:=by
   rw [<- Int.mul_sub];congr 1;lia
  rw [m1] at ih2
  have key:h*2 ^ h*l.length+(2*(l.length / 2))*2 ^ h=h*2 ^ h*(l.length % 2)+(h+1)*2 ^ (h+1)*(l.length / 2):=by
   have e1:l.length=2*(l.length / 2)+l.length % 2:=by lia
   generalize l.length / 2=m at e1 ⊢
   generalize l.length % 2=c at e1 ⊢
   rw [e1,kW]
   grind
  have big:room*2 ^ h<=((2*(l.length / 2)*2 ^ h:Nat):Int):=by
   have r2:room<=((2*(l.length / 2):Nat):Int):=by lia
   have p:(0:Int)<=2 ^ h:=Int.pow_nonneg (by decide)
   have:=Mu r2 p
   rw [aeX]
   rw [wN]
   exact this
  have key':((h*2 ^ h*l.length:Nat):Int)+((2*(l.length / 2)*2 ^ h:Nat):Int)=((h*2 ^ h*(l.length % 2):Nat):Int)+(((h+1)*2 ^ (h+1)*(l.length / 2):Nat):Int):=by
   rw [<- zU,<- zU,key]
  rw [zU,zU]
  rw [zU] at ih2
  lia
theorem ahs:∀ (ls:Ls) (h:Nat),pot h ls<=(h+ls.length-1)*(2 ^ h*val ls)
 | [],h=>by show 0<=_;exact dF _
 | l::r,h=>by
  have ih:=ahs r (h+1)
  show h*2 ^ h*l.length+pot (h+1) r<=(h+(r.length+1)-1)*(2 ^ h*(l.length+2*val r))
  rw [show h+(r.length+1)-1=h+r.length by lia]
  rw [show h+1+r.length-1=h+r.length by lia] at ih
  have e:2 ^ h*(l.length+2*val r)=2 ^ h*l.length+2 ^ (h+1)*val r:=by rw [kW];grind
  rw [e,wL]
  refine aeA ?_ ih
  rw [o8]
  exact wH _ tb_g%
theorem aaX:∀ {ls:Ls},Full ls->ls≠[]->2 ^ (ls.length-1)<=val ls
 | [],_,h=>absurd rfl h
 | [l],f,_=>by
  have:=f l rfl
  show 1<=l.length+2*0
  cases l with
  | nil=>exact absurd rfl this
  | cons a r=>show 1<=r.length+1+0;lia
 | l::m::r,f,_=>by
  have ih:=aaX (ls:=m::r) (tK f) (vp _ _)
  show 2 ^ ((m::r).length+1-1)<=l.length+2*val (m::r)
  rw [show (m::r).length+1-1=((m::r).length-1)+1 by rw [dH];lia,kW]
  lia
theorem Bv {α:Type} {ms:List α} {p:Nat} {l:α} (h:ms[p]? = some l):ms.take (p+1)=ms.take p++[l]:=by rw [nZ,h];rfl
theorem gJ {α:Type} {ms:List α} {p:Nat} {l:α} (h:ms[p]? = some l):ms.drop p=l::ms.drop (p+1):=by
 obtain ⟨hp,e⟩:=gH.mp h
 rw [adp hp,e]
theorem Uy {α:Type} {ms:List α} {p:Nat} {l m:α} (h:ms[p]? = some l):(ms.set p m).take (p+1)=ms.take p++[m]:=by
 obtain ⟨hp,e⟩:=gH.mp h
 rw [Bv (l:=m) (by rw [Gi hp]),adB (bh _)]
theorem set_drop {α:Type} {ms:List α} {p:Nat} {m:α}:(ms.set p m).drop (p+1)=ms.drop (p+1):=by rw [V5 (wI p)]
theorem Bw {α:Type} {ms:List α} {p:Nat} {l:α} (h:ms[p]? = some l):ms.set p l=ms:=by
 obtain ⟨hp,e⟩:=gH.mp h
 rw [<- e,List.set_getElem_self]
theorem Kr {t:Int} {ms:Ls} {p k:Nat} {l:List Int} (h:ms[p]? = some l) (hk:k≠0) :
  (ms.set p (if k % 2=1 then srt (l++[t]) else l)).take (p+1)++gG t ((ms.set p (if k % 2=1 then srt (l++[t]) else l)).drop (p+1)) (k / 2)=ms.take p++gG t (ms.drop p) k:=by
 rw [Uy h,set_drop,gJ h,iK t _ hk,jx];rfl
theorem Zy {t:Int} {ms:Ls} {p k:Nat} (h:p=ms.length) (hk:k≠0):(ms++[[]]).take p++gG t ((ms++[[]]).drop p) k=ms.take p++gG t (ms.drop p) k:=by
 rw [h,List.take_left,adN,qu,Wd,acK t hk]
theorem pG:∀ (xs ys:Ls),val (xs++ys)=val xs+2 ^ xs.length*val ys
 | [],ys=>by show val ys=0+1*val ys;lia
 | x::xs,ys=>by
  show x.length+2*val (xs++ys)=x.length+2*val xs+2 ^ (xs.length+1)*val ys
  rw [pG xs ys,kW,wL,rM _ 2,o8]
  lia
structure Run (room tn ov un:Int) (ls:Ls) (q:Nat) (tn2 ov2 un2:Int) (ms:Ls):Prop where
 cont:∀ out tn' ov' un',Stl room q tn2 ov2 un2 (ms.drop q) out tn' ov' un'->Stl room 0 tn ov un ls (ms.take q++out) tn' ov' un'
 vl:val (ms.take q)+2 ^ q*val (ms.drop q)=val ls
 le:q<=ms.length
 b1:(∀ l∈ls,l.length<=31)->∀ l∈ms,l.length<=62
 b2:(∀ l∈ls,l.length<=31)->∀ l∈ms.drop (q+1),l.length<=31
 b0:(∀ l∈ls,(l.length:Int)<=room)->ms=ls
theorem Run.start {room tn ov un:Int} {ls:Ls}:Run room tn ov un ls 0 tn ov un ls :=
 ⟨fun _ _ _ _ h=>h,by show 0+1*_=_;rw [adO];lia,dF _,fun h l hl=>by have:=h l hl;lia,fun h l hl=>h l (V3 hl),fun _=>rfl⟩
theorem Run.done {room tn ov un tn2 ov2 un2:Int} {ls ms:Ls} {q:Nat} (r:Run room tn ov un ls q tn2 ov2 un2 ms) (h:ms.length<=q):Stl room 0 tn ov un ls ms tn2 ov2 un2:=by
 have:=r.cont [] tn2 ov2 un2 (by rw [VR h];exact .nil _ _ _ _)
 rw [Dr,qp h] at this
 exact this
theorem Run.keep {room tn ov un tn2 ov2 un2:Int} {ls ms:Ls} {q:Nat} {l:List Int} (r:Run room tn ov un ls q tn2 ov2 un2 ms) (h:ms[q]? = some l) (hl:(l.length:Int)<=room):Run room tn ov un ls (q+1) tn2 ov2 un2 ms:=by
 obtain ⟨hp,_⟩:=gH.mp h
 refine ⟨fun out tn' ov' un' s=>?_,?_,hp,r.b1,fun h l hl=>r.b2 h l (by rw [show q+1+1=1+(q+1) by lia,Nat.add_comm 1] at hl;exact V3 (i:=1) (by rw [List.drop_drop];exact hl)),r.b0⟩
 ·have:=r.cont (l::out) tn' ov' un' (by rw [gJ h];exact .keep hl s)
  rw [Bv h,jx];exact this
 ·have:=r.vl
  rw [gJ h] at this
  rw [Bv h,pG,jy,Qg tb_g%,<- this,kW]
  show _+2 ^ q*(l.length+2*0)+_=_+2 ^ q*(l.length+2*_)
  rw [wL,wL,o8]
  lia
theorem Run.big {room tn ov un tn2 ov2 un2:Int} {ls ms:Ls} {q:Nat} {l:List Int} (r:Run room tn ov un ls q tn2 ov2 un2 ms) (h:ms[q]? = some l) (hl:l≠[]):2 ^ q<=val ls:=by
 have:=r.vl
 rw [gJ h] at this
 have e:val (l::ms.drop (q+1))=l.length+2*val (ms.drop (q+1)):=rfl
 have l1:1<=l.length:=by
  cases l with
  | nil=>exact absurd rfl hl
  | cons a b=>show 1<=b.length+1;lia
 have m:=aew (2 ^ q) (show 1<=val (l::ms.drop (q+1)) by lia)
 lia
noncomputable def More (q:Nat) (ms ms':Ls) (nx:List Int):Prop:=(ms'=ms/\ms[q+1]? = some nx)\/(q+1=ms.length/\ms'=ms++[[]]/\nx=[])
theorem More.at {q:Nat} {ms ms':Ls} {nx l:List Int} (m:More q ms ms' nx) (h:ms[q]? = some l):ms'[q]? = some l/\ms'[q+1]? = some nx/\ms'.take q=ms.take q/\(ms.drop (q+1)).headD []=nx/\(ms.drop (q+1)).tail=ms'.drop (q+2):=by
 rcases m with ⟨rfl,e⟩ | ⟨e,rfl,rfl⟩
 ·refine ⟨h,e,rfl,?_,?_⟩
  ·rw [gJ e];rfl
  ·rw [gJ e];rfl
 ·obtain ⟨hp,_⟩:=gH.mp h
  refine ⟨by rw [qm hp];exact h,by rw [e,vm (bh _),wJ];rfl,VH tb_g%,?_,?_⟩
  ·rw [e,Wd];rfl
  ·rw [e,Wd,VR (by rw [cV];show _+1<=_;lia)];rfl
theorem Run.turn {room tn ov un tn2 ov2 un2:Int} {ls ms ms':Ls} {q:Nat} {l nx:List Int} (r:Run room tn ov un ls q tn2 ov2 un2 ms) (m:More q ms ms' nx) (h:ms[q]? = some l) (hl:room<(l.length:Int)) :
  Run room tn ov un ls (q+1) (tn2+1) (if tn2 % 2=0 then ov2+2 ^ q else ov2) (if tn2 % 2=0 then un2 else un2+2 ^ q) ((ms'.set q (lft l)).set (q+1) (srt (nx++pick (decide (tn2 % 2=1)) l))):=by
 obtain ⟨h1,h2,h3,h4,h5⟩:=m.at h
 obtain ⟨p1,_⟩:=gH.mp h1
 obtain ⟨p2,_⟩:=gH.mp h2
 have e0:(ms'.set q (lft l))[q+1]? = some nx:=by rw [Av tb_g%];exact h2
 have e1:((ms'.set q (lft l)).set (q+1) (srt (nx++pick (decide (tn2 % 2=1)) l))).take (q+1)=ms.take q++[lft l]:=by
  rw [adB (bh _),Uy h1,h3]
 have e2:((ms'.set q (lft l)).set (q+1) (srt (nx++pick (decide (tn2 % 2=1)) l))).drop (q+1)=srt (nx++pick (decide (tn2 % 2=1)) l)::(ms.drop (q+1)).tail:=by
  rw [gJ (l:=srt (nx++pick (decide (tn2 % 2=1)) l)) (by rw [Gi (by rw [jz];exact p2)]),set_drop,V5 tb_g%,h5]
 have hm:(∀ l∈ls,l.length<=31)->∀ k∈ms',k.length<=62:=by
  intro hs
  rcases m with ⟨rfl,_⟩ | ⟨_,rfl,_⟩
  ·exact r.b1 hs
  ·intro k hk
   rcases cR.mp hk with z | z
   ·exact r.b1 hs k z
   ·rw [dh.mp z];exact dF _
 have nx2:(∀ l∈ls,l.length<=31)->nx.length<=31:=by
  intro hs
  rcases m with ⟨rfl,e⟩ | ⟨_,_,rfl⟩
  ·exact r.b2 hs nx (by rw [gJ e];exact eN)
  ·exact dF _
 have ll:(∀ l∈ls,l.length<=31)->l.length<=62:=fun z=>r.b1 z l (List.mem_of_getElem? h)
 refine ⟨fun out tn' ov' un' s=>?_,?_,by rw [jz,jz];lia,fun hs k hk=>?_,fun hs k hk=>?_,fun hs=>?_⟩
 ·rw [e1,jx]
  refine r.cont (lft l::out) tn' ov' un' ?_
  rw [gJ h]
  refine .turn hl ?_
  rw [h4]
  rw [e2] at s
  exact s
 ·have v:=r.vl
  rw [gJ h] at v
  rw [e1,e2,pG,jy,Qg (by have:=r.le;lia),<- v,kW]
  show _+2 ^ q*((lft l).length+2*0)+2 ^ q*2*((srt _).length+2*val _)=_+2 ^ q*(l.length+2*val _)
  rw [fX,cV,mW,yt,Zv (ms.drop (q+1)),h4,o8,aeC,<- wL]
  congr 2
  lia
 ·rcases vV hk with z | z
  ·rcases vV z with z | z
   ·exact hm hs k z
   ·rw [z,yt];lia
  ·have:=nx2 hs
   have:=ll hs
   rw [z,fX,cV,mW];lia
 ·rw [set_drop,V5 tb_g%,<- h5] at hk
  exact r.b2 hs k (ady hk)
 ·have e:=r.b0 hs
  have:=hs l (by rw [<- e];exact List.mem_of_getElem? h)
  lia
theorem Nr (t:Int):∀ (n w:Nat) (ls:Ls),w<2 ^ n->(gG t ls w).length<=max ls.length n
 | 0,w,ls,h=>by
  have:w=0:=by rw [zQ] at h;lia
  rw [this,iB];lia
 | n+1,w,ls,h=>by
  by_cases hw:w=0
  ·rw [hw,iB];lia
  ·rw [iK t ls hw,dH]
   have:=Nr t n (w / 2) ls.tail (by rw [kW] at h;lia)
   rw [List.length_tail] at this
   lia
theorem Ks (t:Int) {b:Nat}:∀ (w:Nat) (ls:Ls),(∀ l∈ls,l.length<=b)->∀ l∈gG t ls w,l.length<=b+1:=by
 intro w
 induction w using Jt with
 | _ w ih =>
  intro ls hl
  by_cases hw:w=0
  ·rw [hw,iB];exact fun l h=>Qf (hl l h)
  ·rw [iK t ls hw]
   intro l m
   have hd:=Ry (P:=fun l=>l.length<=b) hl (dF _)
   rcases cP.mp m with e | e
   ·rw [e]
    split
    ·rw [fX,cV];show _+1<=_;lia
    ·exact Qf hd
   ·exact ih (w / 2) tb_g% ls.tail (Zw hl) l e
theorem acN (t:Int) {P:Int->Prop} (ht:P t):∀ (w:Nat) (ls:Ls),(∀ l∈ls,∀ z∈l,P z)->∀ l∈gG t ls w,∀ z∈l,P z :=
 Nq (P:=fun l=>∀ z∈l,P z) t (fun _ h=>nomatch h) fun l hl z hz=>by
  rcases cR.mp (mJ.mp hz) with e | e
  ·exact hl z e
  ·rw [dh.mp e];exact ht
theorem aht (t:Int) (w:Nat) (ls:Ls) (h:∀ l∈ls,Sd l):∀ l∈gG t ls w,Sd l:=Nq (P:=Sd) t List.Pairwise.nil (fun _ _=>uM _) w ls h
theorem Stl.mem {P:Int->Prop} {room:Int} {h:Nat} {tn ov un:Int} {ls out:Ls} {tn' ov' un':Int} (a:Stl room h tn ov un ls out tn' ov' un'):(∀ l∈ls,∀ z∈l,P z)->∀ l∈out,∀ z∈l,P z :=
 a.all (P:=fun l=>∀ z∈l,P z) (fun _ h=>nomatch h) (fun l hl z hz=>hl z (aaW hz)) fun l m o hl hm z hz=>by
  rcases cR.mp (mJ.mp hz) with e | e
  ·exact hl z e
  ·exact hm z (Uw e)
theorem Stl.sd {room:Int} {h:Nat} {tn ov un:Int} {ls out:Ls} {tn' ov' un':Int} (a:Stl room h tn ov un ls out tn' ov' un'):(∀ l∈ls,Sd l)->∀ l∈out,Sd l :=
 a.all (P:=Sd) List.Pairwise.nil (fun _=>ahq) fun _ _ _ _ _=>uM _
structure Good (r T ov un:Int) (ls:Ls):Prop where
 r2:2<=r
 r64:r<=64
 ev:r % 2=0
 vl:(val ls:Int)=T
 sd:∀ l∈ls,Sd l
 sm:∀ l∈ls,(l.length:Int)<=r
 fl:Full ls
 pt:(ov+un)*r<=pot 0 ls
 ov0:0<=ov
 un0:0<=un
theorem Good.new {r:Int} (h1:2<=r) (h2:r<=64) (h3:r % 2=0):Good r 0 0 0 [] :=
 ⟨h1,h2,h3,rfl,fun _ h=>(nomatch h),fun _ h=>(nomatch h),fun _ h=>(nomatch h),by show (0+0)*r<=0;lia,dY _,dY _⟩
theorem Good.add {r T ov un tn tn' ov' un' t w:Int} {ls out:Ls} (g:Good r T ov un ls) (w1:1<=w) (s:Stl r 0 tn ov un (gG t ls w.toNat) out tn' ov' un'):Good r (T+w) ov' un' out/\out≠[]:=by
 have h1:=g.r2
 have mo:=s.mono
 have o0:=g.ov0
 have u0:=g.un0
 refine ⟨⟨g.r2,g.r64,g.ev,?_,s.sd (aht t _ _ g.sd),s.small tb_g%,s.full tb_g% (Zx t _ _ g.fl),?_,by lia,by lia⟩,fun e=>?_⟩
 ·rw [s.val,Np];have:=g.vl;lia
 ·have p1:=s.pot g.ev
  have p2:=acL t w.toNat 0 ls
  have p3:=g.pt
  have e:r*(ov'+un'-ov-un)=(ov'+un')*r-(ov+un)*r:=by grind
  lia
 ·exact Ux tb_g% (s.empty e)
theorem Good.bits {r T ov un:Int} {ls:Ls} (g:Good r T ov un ls) (h:ls≠[]):(2:Int) ^ (ls.length-1)<=T:=by
 have:=aaX g.fl h
 have e:=g.vl
 have c:((2 ^ (ls.length-1):Nat):Int)=(2:Int) ^ (ls.length-1):=by rw [wN];rfl
 lia
theorem Good.near {r T ov un:Int} {ls:Ls} (g:Good r T ov un ls) (h:ls≠[]):(ov+un)*r<=T*((ls.length:Int)-1):=by
 have p:=ahs ls 0
 rw [zQ,Jx,uy] at p
 have q:=g.pt
 have l1:1<=ls.length:=by
  cases ls with
  | nil=>exact absurd rfl h
  | cons a b=>show 1<=b.length+1;lia
 have c:((ls.length-1)*val ls:Nat)=(((ls.length:Int)-1)*(val ls:Int)):=by rw [aeX,Int.natCast_sub l1];rfl
 rw [g.vl] at c
 rw [Qn T]
 lia
theorem ahu {ls:Ls} {i:Nat} {l:List Int} (h:ls[i]? = some l):val (ls.take (i+1))=val (ls.take i)+l.length*2 ^ i:=by
 obtain ⟨hi,_⟩:=gH.mp h
 rw [Bv h,pG,jy,Qg tb_g%]
 show _+2 ^ i*(l.length+2*0)=_
 rw [Jv,Jw,rM]
theorem Good.len {r T ov un:Int} {ls:Ls} (g:Good r T ov un ls) {n:Nat} (h:T<2 ^ n):ls.length<=n:=by
 by_cases e:ls=[]
 ·rw [e];exact dF _
 ·have:=g.bits e
  rcases ig (ls.length-1) n with z | z
  ·lia
  ·have p:=yR (show 0<2 by decide) z
   have c:((2 ^ n:Nat):Int)=(2:Int) ^ n:=by rw [wN];rfl
   have c2:((2 ^ (ls.length-1):Nat):Int)=(2:Int) ^ (ls.length-1):=by rw [wN];rfl
   lia
theorem Good.small {r T ov un:Int} {ls:Ls} (g:Good r T ov un ls):∀ l∈ls,l.length<=64:=fun l h=>by have:=g.sm l h;have:=g.r64;lia
noncomputable def tw (x:Int):List (Int × Int)->Int
 | []=>0
 | p::r=>(if p.1<=x then p.2 else 0)+tw x r
noncomputable def Rk (T ov un:Int) (ls:Ls) (rs:List (Int × Int)):Prop:=∀ x,0<=tw x rs/\tw x rs<=T/\(nr x ls:Int)-ov<=tw x rs/\tw x rs<=nr x ls+un
noncomputable def jn (l m:Ls) (i:Nat):List Int:=srt (l.getD i []++m.getD i [])
noncomputable def qT (n:Nat) (l m:Ls):Ls:=(oU n).map (jn l m)
noncomputable def join (l m:Ls):Ls:=qT (max l.length m.length) l m
theorem Ag (n:Nat) (l m:Ls):qT (n+1) l m=qT n l m++[jn l m n]:=by
 unfold qT
 rw [List.range_succ,cC];rfl
theorem yw (n:Nat) (l m:Ls):(qT n l m).length=n:=by
 unfold qT
 rw [aZ,Ir]
theorem yV (l:Ls) (n:Nat):val (l.take (n+1))=val (l.take n)+(l.getD n []).length*2 ^ n:=by
 rcases ig n l.length with h | h
 ·rw [ahu (fY h),vU,fY h];rfl
 ·rw [qp tb_g%,qp h,vU,vo h]
  show _=_+0*_
  rw [Nat.zero_mul];rfl
theorem Ah:∀ (xs ys:Ls) (h:Nat),pot h (xs++ys)=pot h xs+pot (h+xs.length) ys
 | [],ys,h=>by show pot h ys=0+pot (h+0) ys;rw [uy,Jw]
 | x::xs,ys,h=>by
  show h*2 ^ h*x.length+pot (h+1) (xs++ys)=h*2 ^ h*x.length+pot (h+1) xs+pot (h+(xs.length+1)) ys
  rw [Ah xs ys (h+1),show h+1+xs.length=h+(xs.length+1) by lia,aeC]
theorem yW (l:Ls) (n:Nat):pot 0 (l.take (n+1))=pot 0 (l.take n)+n*2 ^ n*(l.getD n []).length:=by
 rcases ig n l.length with h | h
 ·rw [Bv (fY h),Ah,jy,Qg tb_g%,uy,vU,fY h]
  rfl
 ·rw [qp tb_g%,qp h,vU,vo h]
  show _=_+_*0
  rw [Jv];rfl
theorem xu (l m:Ls) (i:Nat):(jn l m i).length=(l.getD i []).length+(m.getD i []).length:=by
 unfold jn;rw [fX,cV]
theorem Nt (l m:Ls):∀ n,val (qT n l m)=val (l.take n)+val (m.take n)
 | 0=>rfl
 | n+1=>by
  rw [Ag,pG,yw,Nt l m n,yV,yV]
  show _+2 ^ n*((jn l m n).length+2*0)=_
  rw [Jv,Jw,xu,wL,rM (2 ^ n),rM (2 ^ n)]
  lia
theorem Nu (l m:Ls):∀ n,pot 0 (qT n l m)=pot 0 (l.take n)+pot 0 (m.take n)
 | 0=>rfl
 | n+1=>by
  rw [Ag,Ah,yw,Nu l m n,yW,yW,uy]
  show _+(n*2 ^ n*(jn l m n).length+0)=_
  rw [Jw,xu,wL]
  lia
theorem Uz (l m:Ls):val (join l m)=val l+val m:=by
 unfold join
 rw [Nt,qp tb_g%,qp tb_g%]
theorem ahv (l m:Ls):pot 0 (join l m)=pot 0 l+pot 0 m:=by
 unfold join
 rw [Nu,qp tb_g%,qp tb_g%]
theorem lD (l m:Ls):(join l m).length=max l.length m.length:=yw _ _ _
theorem tL {P:List Int->Prop} {ls:Ls} (h:∀ l∈ls,P l) (h0:P []) (i:Nat):P (ls.getD i []):=by
 rcases ig i ls.length with z | z
 ·rw [vU,fY z];exact h _ (Dq z)
 ·rw [vU,vo z];exact h0
theorem Bx {P:List Int->Prop} {l m:Ls} (h:∀ i,P (jn l m i)):∀ k∈join l m,P k:=by
 intro k hk
 unfold join qT at hk
 obtain ⟨i,_,rfl⟩:=kj.mp hk
 exact h i
theorem ajr (l m:Ls):∀ k∈join l m,Sd k:=Bx fun _=>uM _
theorem acO {l m:Ls} (hl:Full l) (hm:Full m):Full (join l m):=by
 intro k hk
 rw [List.getLast?_eq_getElem?,lD] at hk
 have hp:=(gH.mp hk).1
 rw [lD] at hp
 unfold join qT at hk
 rw [gZ,adC tb_g%] at hk
 have e:jn l m (max l.length m.length-1)=k:=bW hk
 intro z
 have hz:(jn l m (max l.length m.length-1)).length=0:=by rw [e,z];rfl
 rw [xu] at hz
 have one:∀ {ls:Ls},Full ls->max l.length m.length=ls.length->(ls.getD (max l.length m.length-1) []).length=0->False:=by
  intro ls f e0 h0
  have hi:ls.length-1<ls.length:=by lia
  have:=f ls[ls.length-1] (by rw [List.getLast?_eq_getElem?,fY hi])
  rw [e0,vU,fY hi] at h0
  exact this (Gh.mp h0)
 rcases Nat.le_total l.length m.length with a | a
 ·exact one hm tb_g% tb_g%
 ·exact one hl tb_g% tb_g%
theorem Good.Af {r T1 ov1 un1 T2 ov2 un2 tn tn' ov' un':Int} {l m out:Ls} (g:Good r T1 ov1 un1 l) (h:Good r T2 ov2 un2 m) (s:Stl r 0 tn (ov1+ov2) (un1+un2) (join l m) out tn' ov' un'):Good r (T1+T2) ov' un' out:=by
 have h1:=g.r2
 have mo:=s.mono
 have a1:=g.ov0
 have a2:=g.un0
 have a3:=h.ov0
 have a4:=h.un0
 refine ⟨g.r2,g.r64,g.ev,?_,s.sd (ajr l m),s.small tb_g%,s.full tb_g% (acO g.fl h.fl),?_,by lia,by lia⟩
 ·rw [s.val,Uz];have:=g.vl;have:=h.vl;lia
 ·have p1:=s.pot g.ev
  have p2:=ahv l m
  have p3:=g.pt
  have p4:=h.pt
  have e:r*(ov'+un'-(ov1+ov2)-(un1+un2))=(ov'+un')*r-(ov1+un1)*r-(ov2+un2)*r:=by grind
  lia
end RG
set_option autoImplicit false
namespace WN
structure Box where
 f:Int
 l:Int
 s:Int
noncomputable def sum (bs:List Box):Int:=(bs.map (·.s)).sum
theorem sum_nil:sum []=0:=rfl
theorem sum_cons (b:Box) (r:List Box):sum (b::r)=b.s+sum r:=by unfold sum;rw [dW,jr]
theorem sum_append (a b:List Box):sum (a++b)=sum a+sum b:=by unfold sum;rw [cC,Ds]
noncomputable def settle (room:Int):Int->Box->List Box->List Box
 | _,b,[]=>[b]
 | S,b,o::os=>if (b.s+o.s)*room<=S then settle room S ⟨o.f,b.l,b.s+o.s⟩ os else b::settle room (S+b.s) o os
theorem uN (room S:Int) (b:Box):settle room S b []=[b]:=rfl
theorem iy (room S:Int) (b o:Box) (os:List Box):settle room S b (o::os)=if (b.s+o.s)*room<=S then settle room S ⟨o.f,b.l,b.s+o.s⟩ os else b::settle room (S+b.s) o os:=rfl
noncomputable def settled (room:Int):List Box->List Box
 | []=>[]
 | b::os=>settle room 0 b os
theorem Ai (room:Int):∀ (os:List Box) (S:Int) (b:Box),sum (settle room S b os)=b.s+sum os
 | [],S,b=>by rw [uN,sum_cons]
 | o::os,S,b=>by
  rw [iy,sum_cons]
  split
  ·rw [Ai room os];show b.s+o.s+sum os=_;lia
  ·rw [sum_cons,Ai room os]
theorem UG (room:Int) (bs:List Box):sum (settled room bs)=sum bs:=by
 cases bs with
 | nil=>rfl
 | cons b os=>show sum (settle room 0 b os)=_;rw [Ai,sum_cons]
theorem Aj (room:Int):∀ (os:List Box) (S:Int) (b:Box),(settle room S b os).length<=os.length+1
 | [],S,b=>by rw [uN];simp
 | o::os,S,b=>by
  rw [iy]
  split
  ·have:=Aj room os S ⟨o.f,b.l,b.s+o.s⟩;simp only [dH];lia
  ·have:=Aj room os (S+b.s) o;simp only [dH];lia
theorem UJ (room:Int) (bs:List Box):(settled room bs).length<=bs.length:=by
 cases bs with
 | nil=>exact bh _
 | cons b os=>exact Aj room os 0 b
noncomputable def Multi (room:Int):Int->List Box->Prop
 | _,[]=>True
 | S,b::os=>(b.f≠b.l->b.s*room<=S)/\Multi room (S+b.s) os
noncomputable def vG (room:Int):Int->List Box->Prop
 | _,[]=>True
 | _,[_]=>True
 | S,b::o::os=>S<(b.s+o.s)*room/\vG room (S+b.s) (o::os)
theorem uO {room:Int} (hr:0<=room):∀ (os:List Box) (S:Int) (b:Box),0<=b.s->(∀ x∈os,0<=x.s)->(∃ h t,settle room S b os=h::t/\b.s<=h.s)/\vG room S (settle room S b os)
 | [],S,b,_,_=>⟨⟨b,[],rfl,dY _⟩,trivial⟩
 | o::os,S,b,hb,ho=>by
  have h0:=ho o eN
  rw [iy]
  split
  ·obtain ⟨⟨h,t,e,le⟩,n⟩:=uO hr os S ⟨o.f,b.l,b.s+o.s⟩ (by show 0<=b.s+o.s;lia) fun x m=>ho x (fB _ m)
   have le':b.s+o.s<=h.s:=le
   exact ⟨⟨h,t,e,by lia⟩,n⟩
  ·rename_i c
   obtain ⟨⟨h,t,e,le⟩,n⟩:=uO hr os (S+b.s) o h0 fun x m=>ho x (fB _ m)
   refine ⟨⟨b,_,rfl,dY _⟩,?_⟩
   rw [e] at n ⊢
   refine ⟨?_,n⟩
   have:(b.s+o.s)*room<=(b.s+h.s)*room:=Mu tb_g% hr
   lia
theorem Ma {room:Int} (hr:0<=room) {bs:List Box} (h:∀ x∈bs,0<=x.s):vG room 0 (settled room bs):=by
 cases bs with
 | nil=>trivial
 | cons b os=>exact (uO hr os 0 b (h b eN) fun x m=>h x (fB _ m)).2
structure Sums (P:Int->Int):Prop where
 zero:∀ n,n<=0->P n=0
 mono:∀ a b,a<=b->P a<=P b
noncomputable def Chain (P:Int->Int) (edge:Int):Int->List Box->Prop
 | u,[]=>edge<=u->P u=P edge
 | u,b::os=>1<=b.f/\b.f<=b.l/\b.l<=u/\P u=P b.l/\b.s=P b.l-P (b.f-1)/\P (b.f-1)<P b.f/\P (b.l-1)<P b.l/\Chain P edge (b.f-1) os
theorem Chain.pos {P:Int->Int} (hP:Sums P) {edge:Int}:∀ {bs:List Box} {u:Int},Chain P edge u bs->∀ b∈bs,1<=b.s
 | b::os,u,⟨_,h2,_,_,h5,h6,_,r⟩,x,m=>by
  rcases cP.mp m with rfl | m
  ·have:=hP.mono x.f x.l h2;lia
  ·exact Chain.pos hP r x m
theorem Chain.below {P:Int->Int} {edge:Int}:∀ {bs:List Box} {u:Int},Chain P edge u bs->∀ b∈bs,1<=b.f/\b.f<=b.l/\b.l<=u
 | b::os,u,⟨h1,h2,h3,_,_,_,_,r⟩,x,m=>by
  rcases cP.mp m with rfl | m
  ·exact ⟨h1,h2,h3⟩
  ·obtain ⟨k1,k2,k3⟩:=Chain.below r x m;exact ⟨k1,k2,by lia⟩
theorem Chain.join {P:Int->Int} {edge u:Int} {b o:Box} {os:List Box} (h:Chain P edge u (b::o::os)):Chain P edge u (⟨o.f,b.l,b.s+o.s⟩::os):=by
 obtain ⟨h1,h2,h3,h4,h5,h6,h7,k1,k2,k3,k4,k5,k6,k7,r⟩:=h
 refine ⟨k1,?_,h3,h4,?_,k6,h7,r⟩
 ·show o.f<=b.l;lia
 ·show b.s+o.s=P b.l-P (o.f-1);lia
theorem Chain.settle {P:Int->Int} {edge room:Int}:∀ {os:List Box} {S u:Int} {b:Box},Chain P edge u (b::os)->Chain P edge u (settle room S b os)
 | [],S,u,b,h=>h
 | o::os,S,u,b,h=>by
  rw [iy]
  split
  ·exact Chain.settle h.join
  ·obtain ⟨h1,h2,h3,h4,h5,h6,h7,r⟩:=h
   exact ⟨h1,h2,h3,h4,h5,h6,h7,Chain.settle r⟩
theorem Chain.settled {P:Int->Int} {edge room:Int} {bs:List Box} {u:Int} (h:Chain P edge u bs):Chain P edge u (settled room bs):=by
 cases bs with
 | nil=>exact h
 | cons b os=>exact Chain.settle h
noncomputable def low (e:Int) (bs:List Box):Int:=sum (bs.filter fun b=>decide (e<b.f))
noncomputable def cut (e:Int) (bs:List Box):Int:=sum (bs.filter fun b=>decide (b.f<=e/\e<b.l))
theorem ahw {P:Int->Int} {edge e:Int}:∀ {bs:List Box} {u:Int},Chain P edge u bs->u<=e->low e bs=0/\cut e bs=0:=by
 intro bs u h hu
 have k:=Chain.below h
 constructor
 ·unfold low
  rw [Oq.mpr (fun x m=>by obtain ⟨_,_,_⟩:=k x m;simp;lia)];rfl
 ·unfold cut
  rw [Oq.mpr (fun x m=>by obtain ⟨_,_,_⟩:=k x m;simp;lia)];rfl
theorem Chain.near {P:Int->Int} {edge e room:Int} (hr:0<=room):∀ {bs:List Box} {u S:Int},Chain P edge u bs->Multi room S bs->cut e bs*room<=S+low e bs\/cut e bs=0
 | [],u,S,_,_=>.inr rfl
 | b::os,u,S,h,m=>by
  obtain ⟨h1,h2,h3,h4,h5,h6,h7,r⟩:=h
  by_cases c1:e<b.f
  ·have e1:low e (b::os)=b.s+low e os:=by unfold low;rw [VP (by simpa using c1),sum_cons]
   have e2:cut e (b::os)=cut e os:=by unfold cut;rw [Oo (by simp;lia)]
   rw [e1,e2]
   rcases Chain.near (e:=e) hr r m.2 with z | z
   ·exact .inl tb_g%
   ·exact .inr z
  ·obtain ⟨k1,k2⟩:=ahw r (e:=e) tb_g%
   have e1:low e (b::os)=low e os:=by unfold low;rw [Oo (by simpa using c1)]
   by_cases c2:e<b.l
   ·have e2:cut e (b::os)=b.s+cut e os:=by unfold cut;rw [VP (by simp;lia),sum_cons]
    refine .inl ?_
    rw [e1,e2,k1,k2]
    have:=m.1 tb_g%
    simpa using this
   ·have e2:cut e (b::os)=cut e os:=by unfold cut;rw [Oo (by simp;lia)]
    exact .inr (by rw [e2,k2])
theorem jH {a:Int} (h:0<a) (n:Nat):0<a ^ n:=Eo h
theorem grown {room:Int} (hr:1<=room):∀ (q:Nat) {bs:List Box} {S:Int},1<=S->vG room S bs->bs.length=2*q->S*(room+1) ^ q<=(S+sum bs)*room ^ q/\(0<q->S*(room+1) ^ q<(S+sum bs)*room ^ q)
 | 0,bs,S,h,n,l=>by
  have:bs=[]:=Gh.mp tb_g%
  subst this
  refine ⟨?_,fun z=>absurd z (nF _)⟩
  rw [sum_nil];simp
 | q+1,bs,S,h,n,l=>by
  match bs,n,l with
  | b::o::os,n,l =>
   have l':os.length=2*q:=by simp only [dH] at l;lia
   obtain ⟨n1,n2⟩:=n
   have n3:vG room (S+b.s+o.s) os:=by
    cases os with
    | nil=>trivial
    | cons c cs=>exact n2.2
   have hb:S*(room+1)+1<=(S+b.s+o.s)*room:=by
    rw [XH,ae2,Int.add_assoc S b.s o.s,Qo];lia
   have S0:1<=S+b.s+o.s:=by
    by_cases c:1<=S+b.s+o.s
    ·exact c
    ·have:(S+b.s+o.s)*room<=0:=Int.mul_nonpos_of_nonpos_of_nonneg tb_g% tb_g%
     have:0<=S*(room+1):=aeZ tb_g% tb_g%
     lia
   obtain ⟨g1,_⟩:=grown hr q S0 n3 l'
   have p0:=jH (show (0:Int)<room+1 by lia) q
   have p1:=jH (show (0:Int)<room by lia) q
   have strict:S*(room+1) ^ (q+1)<(S+sum (b::o::os))*room ^ (q+1):=by
    rw [sum_cons,sum_cons,lM,lM]
    have e1:S*((room+1) ^ q*(room+1))=S*(room+1)*(room+1) ^ q:=by rw [Qn ((room+1) ^ q),zV]
    have e2:(S+(b.s+(o.s+sum os)))*(room ^ q*room)=(S+b.s+o.s+sum os)*room ^ q*room:=by rw [<- zV];congr 2;lia
    rw [e1,e2]
    have k1:(S*(room+1)+1)*(room+1) ^ q<=(S+b.s+o.s)*room*(room+1) ^ q:=Mu hb tb_g%
    have k2:(S+b.s+o.s)*(room+1) ^ q*room<=(S+b.s+o.s+sum os)*room ^ q*room:=Mu g1 tb_g%
    have e3:(S+b.s+o.s)*room*(room+1) ^ q=(S+b.s+o.s)*(room+1) ^ q*room:=by rw [aeU]
    rw [Qo,JC] at k1
    lia
   exact ⟨Int.le_of_lt strict,fun _=>strict⟩
theorem few {room:Int} (hr:1<=room) {bs:List Box} (pos:∀ b∈bs,1<=b.s) (n:vG room 0 bs):∀ p:Nat,2+2*p<bs.length->(room+1) ^ (p+1)<sum bs*room ^ (p+1):=by
 have shrink:∀ (k:Nat) {bs:List Box} {S:Int},vG room S bs->vG room S (bs.take k):=by
  intro k bs
  induction bs generalizing k with
  | nil=>intro S _;rw [Wg];trivial
  | cons b r ih =>
   intro S h
   cases k with
   | zero=>trivial
   | succ k =>
    cases r with
    | nil=>rw [V6,Wg];trivial
    | cons o os =>
     cases k with
     | zero=>rw [V6,O1];trivial
     | succ k=>exact ⟨h.1,ih (k+1) h.2⟩
 have ajs:∀ (k:Nat) {bs:List Box},(∀ b∈bs,1<=b.s)->sum (bs.take k)<=sum bs:=by
  intro k bs
  induction bs generalizing k with
  | nil=>intro _;rw [Wg];exact dY _
  | cons b r ih =>
   intro h
   cases k with
   | zero =>
    have:∀ {l:List Box},(∀ b∈l,1<=b.s)->0<=sum l:=fun {l}=>by
     induction l with
     | nil=>intro _;exact dY _
     | cons c cs ih=>intro h;rw [sum_cons];have:=h c eN;have:=ih fun x m=>h x (fB _ m);lia
    rw [O1];exact this h
   | succ k=>rw [V6,sum_cons,sum_cons];have:=ih k fun x m=>h x (fB _ m);lia
 intro p hl
 match bs,pos,n,hl with
 | b::r,pos,n,hl =>
  have lr:2*(p+1)<=r.length:=by simp only [dH] at hl;lia
  have hb:=pos b eN
  have n2:vG room b.s (r.take (2*(p+1))):=by
   refine shrink _ ?_
   cases r with
   | nil=>trivial
   | cons o os=>have:=n.2;rw [mO] at this;exact this
  obtain ⟨_,g⟩:=grown hr (p+1) hb n2 (by rw [jy];lia)
  have g':=g (aeD _)
  have s1:=ajs (2*(p+1)) (bs:=r) fun x m=>pos x (fB _ m)
  have p0:=jH (show (0:Int)<room+1 by lia) (p+1)
  have p1:=jH (show (0:Int)<room by lia) (p+1)
  have k1:1*(room+1) ^ (p+1)<=b.s*(room+1) ^ (p+1):=Mu hb tb_g%
  have k2:(b.s+sum (r.take (2*(p+1))))*room ^ (p+1)<=(b.s+sum r)*room ^ (p+1):=Mu tb_g% tb_g%
  rw [sum_cons]
  lia
end WN
namespace L2
open PySem PySem.Spec PyProof.Rows
section
variable {prog:aP} {w:World} {A:bH} {E:Value->Shared->Prop} {s:Shared}
noncomputable def outR (Q E:Value->Shared->Prop) (r:lU) (z:Shared):Prop:=match r with
 | .ok (.ret u)=>Q u z
 | .ok _=>False
 | .error u=>E u z
noncomputable def outF (prog:aP) (w:World) (A:bH) (Q E:Value->Shared->Prop) (f:Fin) (z:Shared):Prop:=match f with
 | .done g=>outR Q E (.ok g) z
 | .again c=>c.quiet=true/\f9 (model prog w) A c (outR Q E) z
theorem ajt {id:String} {b:dZ} {xs:List Value} {kw:List (Str × Value)} {Q:Value->Shared->Prop} (hk:WD id=none)
  (hp:plainId id=true) (hb:zK table id=some b) (ha:wB id ⟨xs,kw⟩)
  (hc:wpAny (model prog w) A.in1 (b ⟨xs,kw⟩) (outF prog w A Q E) E s):wpAny (model prog w) A (call (.builtin id) xs kw) Q E s:=by
 refine wg (Iu hp hb ?_)
 simp only [O6,hk]
 have hc2:=eO hc (Q':=fun f z=>match f with
  | .done g=>outR Q E (.ok g) z
  | .again c=>c.quiet=true/\f9 (model prog w) A c (outR Q E) z) (fun _ _ h=>h) fun _ _ h=>h
 generalize hsig:Manifest.signature? id=sg at *
 cases sg with
 | none=>exact aR hc2
 | some sig =>
  have e:afS id sig ⟨xs,kw⟩=pure ():=by
   simp only [wB,hsig] at ha
   exact ha
  refine (?_:wpAny _ A.in1 (afS id sig ⟨xs,kw⟩) _ _ s)
  rw [e]
  exact aR hc2
end
variable {pins:List (Addr × Obj)} {w:World} {X:Cx} {E Q:Value->Shared->Prop} {H:Hp} {scope:Scope} {R:lU->Shared->Prop} {caps:List Nat} {σ:St} {mg:Str->Option Value} {N ps:List Str} {A:bH} {items:Array Value} {P prog:aP} {k t' i:Nat} {C a e D f B it:Addr} {ifs elts:List Expr} {x qual:Str} {te tl:TE} {xs:List V} {fp ch:List Addr} {tg iter:Expr} {ta:TA} {outer:List Env} {bmB:List Value} {base h:Heap} {g:TG} {fd:FuncData} {tt:TT} {newId:String} {cd:Value} {st:Stmt} {p tpos:Pos} {sp:Sp} {o:HO}
noncomputable def bdB (b:Bool) (xs:Array (Int × Tok)) (i j:Nat):Bool:=cond b (decide (numAt xs i<numAt xs j)) (decide (numAt xs i>numAt xs j))
theorem ahx (b:Bool):zK table (cond b "min.loop" "max.loop")=some (cond b dZ.«min.loop» dZ.«max.loop»)/\plainId (cond b "min.loop" "max.loop")=true/\(toString (cond b "min" "max")++toString ".loop" : String)=cond b "min.loop" "max.loop" := by
 cases b
 ·exact ⟨F.entry_max_loop,F.plain_max_loop,by decide⟩
 ·exact ⟨F.entry_min_loop,F.plain_min_loop,by decide⟩
theorem bd_as (b:Bool) (xs:Array (Int × Tok)):WD (cond b "min" "max")=none/\plainId (cond b "min" "max")=true/\zK table (cond b "min" "max")=some (cond b dZ.«min» dZ.«max»)/\CmpOf prog w A (cond b .Lt .Gt) (fun i v=>(zM xs)[i]? = some v) (bdB b xs):=by
 cases b
 ·exact ⟨F.kind_max,F.plain_max,F.entry_max,CmpOf.ints_gt (numAt xs) fun _ _=>WK⟩
 ·exact ⟨F.kind_min,F.plain_min,F.entry_min,CmpOf.ints_lt (numAt xs) fun _ _=>WK⟩
theorem aju (b:Bool) (a d:Value):wB (cond b "min" "max") ⟨[a],[("default",d)]⟩:=by cases b <;> (unfold wB;kernel_rfl)
section
variable {wr:List Addr} {n:Nat} {P:Nat->Value->Prop} {St:Nat->Heap->Prop}
theorem ahy (b:Bool) (W:Walks prog w A.in1 it fp wr n P St) (bt:Nat->Nat->Bool)
  (cm:CmpOf prog w A.in1 (cond b .Lt .Gt) P bt) (S:Addr) (nS:S∉fp) (kw:List (Str × Value)) :
  ∀ (k j:Nat) (s:Shared) (u:Value) (c:Nat),k+(j+1)=n->St (j+1) s.heap->P (nu bt j) u ->
   s.heap.get? S=some { cls:=.type "list",data:=.seq #[u,u] c } ->
   (∀ v h' tk,P (nu bt (n-1)) v->(∀ b o,b∉wr->b≠S->s.heap.get? b=some o->h'.get? b=some o) ->
    R (.ok (.ret v)) { s with heap:=h',toks:=tk }) ->
   f9 (model prog w) A (.builtin (cond b "min.loop" "max.loop") ⟨[.ref it,.none,.ref S],kw⟩) R s:=by
 obtain ⟨el,pl,nm⟩:=ahx b
 cases b
 all_goals
  dsimp only [cond] at *
  have nw:S∉wr:=fun h=>nS (W.sub _ h)
  intro k
  induction k with
  | zero =>
   intro j s u c e st pu hS post
   have ej:j=n-1:=by lia
   have en:j+1=n:=by lia
   rw [ej] at pu
   rw [en] at st
   refine vq el ?_
   rw [yS pl _]
   refine aJ (v8 hS rfl ?_)
   refine aJ (DW (W.done s _ _ st fun h1 tk1 kp=>?_))
   refine aJ (DR (kp S _ nw hS) rfl (aJ (Ja (aR ?_))))
   exact post u _ tk1 pu fun b o nb nbS eb=>by
    rw [yQ _ _ (aU nbS)];exact kp b o nb eb
  | succ k ih =>
   intro j s u c e st pu hS post
   refine vq el ?_
   rw [yS pl _]
   refine aJ (v8 hS rfl ?_)
   refine aJ (DW (W.item (j+1) s _ _ tb_g% st fun v h1 tk1 pv st1 kp=>?_))
   have hS1:=kp S _ nw hS
   refine aJ (aR ?_)
   refine aJ (DW (oh (aJ (cm (j+1) (nu bt j) v u _ _ _ pv pu ?_))))
   refine aJ (oh (Dz (aJ (Ja (aR ?_)))))
   have ab:nu bt (j+1)=if bt (j+1) (nu bt j) then j+1 else nu bt j:=rfl
   cases hb:bt (j+1) (nu bt j) with
   | true =>
    rw [hb,if_pos rfl] at ab
    rw [if_pos rfl]
    refine aJ (DR hS1 rfl (aJ (Ja ?_)))
    rw [nm]
    refine aR ⟨oW pl _,ih (j+1) _ v _ tb_g% (W.frame _ _ _ st1 fun b hb o eb=>?_) (by rw [ab];exact pv) (Jq _ hS1 rfl) fun v2 h2 tk2 p2 k2=>?_⟩
    ·rw [yQ _ _ (fun z:S=b=>nS (z ▸ hb))];exact eb
    ·exact post v2 h2 tk2 p2 fun b o nb nbS eb=>k2 b o nb nbS (by
      rw [yQ _ _ (aU nbS)];exact kp b o nb eb)
   | false =>
    rw [hb,if_neg (by decide)] at ab
    rw [if_neg (by decide)]
    refine aJ (Ja ?_)
    rw [nm]
    refine aR ⟨oW pl _,ih (j+1) _ u c tb_g% st1 (by rw [ab];exact pu) hS1 fun v2 h2 tk2 p2 k2=>?_⟩
    exact post v2 h2 tk2 p2 fun b o nb nbS eb=>k2 b o nb nbS (kp b o nb eb)
theorem UL (b:Bool) (W:Walks prog w A.in1 it fp wr n P St) (bt:Nat->Nat->Bool)
  (cm:CmpOf prog w A.in1 (cond b .Lt .Gt) P bt) (S:Addr) (nS:S∉fp) (d:Value) {s:Shared} {c:Nat} (st:St 0 s.heap)
  (hS:s.heap.get? S=some { cls:=.type "list",data:=.seq #[] c })
  (post:∀ v h' tk,(if 0<n then P (nu bt (n-1)) v else v=d)->(∀ b o,b∉wr->b≠S->s.heap.get? b=some o->h'.get? b=some o) ->
   R (.ok (.ret v)) { s with heap:=h',toks:=tk }) :
  f9 (model prog w) A (.builtin (cond b "min.loop" "max.loop") ⟨[.ref it,.none,.ref S],[("default",d)]⟩) R s:=by
 obtain ⟨el,pl,nm⟩:=ahx b
 have bg:=ahy (prog:=prog) (w:=w) (A:=A) (R:=R) (it:=it) (fp:=fp) (wr:=wr) (n:=n) (P:=P) (St:=St) b
 cases b
 all_goals
  dsimp only [cond] at *
  have nw:S∉wr:=fun h=>nS (W.sub _ h)
  refine vq el ?_
  rw [yS pl _]
  refine aJ (v8 hS rfl ?_)
  rcases Js n with e | e
  ·subst e
   refine aJ (DW (W.done s _ _ st fun h1 tk1 kp=>?_))
   refine aJ (Jb ?_)
   exact aR (post d h1 tk1 rfl fun b o nb _ eb=>kp b o nb eb)
  ·refine aJ (DW (W.item 0 s _ _ e st fun v h1 tk1 pv st1 kp=>?_))
   have hS1:=kp S _ nw hS
   refine aJ (aR ?_)
   refine aJ (DR hS1 rfl ?_)
   rw [nm]
   refine aR ⟨oW pl _,bg W bt cm S nS _ (n-1) 0 _ v _ tb_g% (W.frame _ _ _ st1 fun b hb o eb=>?_) pv (Jq _ hS1 rfl) fun v2 h2 tk2 p2 k2=>?_⟩
   ·rw [yQ _ _ (fun z:S=b=>nS (z ▸ hb))];exact eb
   ·exact post v2 h2 tk2 (by rw [if_pos (show 0<n from e)];exact p2) fun b o nb nbS eb=>k2 b o nb nbS (by
     rw [yQ _ _ (aU nbS)];exact kp b o nb eb)
end
section
variable {s:Shared} {l:Addr} {xs:Array (Int × Tok)}
theorem Zz (b:Bool) (d:Value) (hh:A.handled=none) (hl:s.heap.IsList l (zM xs))
  (post:∀ v h' tk,(if 0<xs.size then (zM xs)[nu (bdB b xs) (xs.size-1)]? = some v else v=d) ->
   (∀ b o,s.heap.get? b=some o->h'.get? b=some o)->Q v { s with heap:=h',toks:=tk }) :
  wpAny (model prog w) A (call (.builtin (cond b "min" "max")) [.ref l] [("default",d)]) Q E s:=by
 have bf:=fun {R it fp wr n P St}=>UL (prog:=prog) (w:=w) (A:=A) (R:=R) (it:=it) (fp:=fp) (wr:=wr) (n:=n) (P:=P) (St:=St) b
 have ar:=aju b (.ref l) d
 obtain ⟨el,pl,nm⟩:=ahx b
 obtain ⟨k0,p0,e0,cm⟩:=bd_as (prog:=prog) (w:=w) (A:=A.in1) b xs
 cases b
 all_goals
  dsimp only [cond] at *
  have sz:(zM xs).size=xs.size:=by simp [zM]
  refine ajt k0 p0 e0 ar ?_
  refine aJ (uq (show amb _ ["key","default"] 0 ⟨[],[("default",d)]⟩=pure [none,some d] from rfl) ?_)
  refine aJ (aR ?_)
  refine aJ (iter_intList hl fun s2 e st hfp nlI=>?_)
  subst e
  refine aJ (Ax ?_)
  rw [nm]
  refine aR ⟨oW pl _,bf (Yq (A:=A.in1) hh _ l nlI (zM xs)) _ cm _ (fun hm=>nF _ (hfp _ hm)) d ?_ (eU _ rfl) fun v h' tk hv kp=>?_⟩
  ·exact (Yq (A:=A.in1) (prog:=prog) (w:=w) hh _ l nlI (zM xs)).frame _ _ _ st fun b _ o e=>dX _ e
  ·rw [sz] at hv
   refine post v h' tk hv fun b o e=>kp b o ?_ ?_ (dX _ (dX _ e))
   ·intro hm
    have h1:=dh.mp hm
    have h2:=bR e
    rw [h1] at h2
    exact nF _ h2
   ·have h2:=bR e
    rw [wF]
    exact cM (Az h2)
end
section
variable {px kp pos:Pos} {j:Nat} {bpos:Pos}
noncomputable def Best (lo:Bool) (ns:List Int) (v:V):Prop:=(ns=[]/\v = .non)\/∃ m,v = .int m/\m∈ns/\∀ z∈ns,if lo then m<=z else z<=m
noncomputable def ani (K:aW) (lo:Bool) (tl:TE):TE:=fun σ H Q=>tl σ H fun y H1=>∃ (a:Addr) (ns:List Int),y = .ref a/\SqL K H1 a (ns.map V.int)/\∀ v,Best lo ns v->Q v H1
theorem UW (b:Bool) (hm0:X.mg (cond b "min" "max" : String)=none) (hl:PE X (.Name x px) tl) (hc:X.calm=true) (hg:Gl X (cond b "min" "max" : String):=by rfl) :
  PE X (.Call (.Name (cond b "min" "max" : String) p) [.Name x px] [⟨some "default",.Constant .none j bpos,kp⟩] pos) (ani X.K b tl):=by
 have bd:=fun {A s l xs Q}=>Zz (prog:=X.prog) (w:=X.w) (A:=A) (E:=X.xe) (s:=s) (l:=l) (xs:=xs) (Q:=Q) b
 have hbt:∀ ys:Array (Int × Tok),nu (bdB b ys) (ys.size-1)<=ys.size-1/\∀ j,j<=ys.size-1->if b then numAt ys (nu (bdB b ys) (ys.size-1))<=numAt ys j else numAt ys j<=numAt ys (nu (bdB b ys) (ys.size-1)):=fun ys=>by
  cases b
  ·exact argBest_gt (numAt ys) (ys.size-1)
  ·exact argBest_lt (numAt ys) (ys.size-1)
 have bo:zE (cond b "min" "max" : String)=some (.builtin (cond b "min" "max")):=by
  cases b
  ·exact boot_max
  ·exact boot_min
 cases b
 all_goals
  dsimp only [cond] at *
  walk_at "e"
  refine Dw (nG I hg hm0 bo ?_)
  refine callWith_kw (zX (thn (hl pins s σ H _ I h) fun v s1 ⟨y,H1,I1,r1,q1⟩=>?_))
  obtain ⟨a,ns,rfl,ha,q⟩:=q1
  obtain rfl:v=Value.ref a:=r1
  refine Er (kws_cons ?_)
  refine afn (kws_nil ?_)
  show wpAny _ _ (call (.builtin _) [.ref a] [(bG "default",.none)]) _ _ _
  obtain ⟨its,rv,pl,hz⟩:=I1.list ha
  have hi:=intsAre_of rv
  have hl:=pl.isList
  obtain ⟨ys,e⟩:=hi.allInts.items
  have hns:ns=ys.toList.map (·.1):=by rw [<- hi.numsOf,<- nums_intItems,<- e]
  have hsz:ns.length=ys.size:=by rw [hns,aZ,qx]
  rw [e] at hl
  refine bd .none (I1.ok.hd hc) hl fun v h' tk hv hk=>?_
  rcases Js ys.size with z | z
  ·rw [if_neg tb_g%] at hv
   subst hv
   exact ⟨.non,H1,I1.kept hk,rfl,q _ (.inl ⟨Gh.mp tb_g%,rfl⟩)⟩
  ·rw [if_pos z] at hv
   obtain ⟨t,rfl⟩:=WK hv
   obtain ⟨h1,h2⟩:=hbt ys
   refine ⟨.int _,H1,I1.kept hk,⟨t,rfl⟩,q _ (.inr ⟨_,rfl,?_,fun b hb=>?_⟩)⟩
   ·rw [hns,numAt_eq];exact getD_mem (by rw [aZ,qx];lia)
   ·rw [hns] at hb
    obtain ⟨j,hj,rfl⟩:=mem_getD hb
    rw [aZ,qx] at hj
    rw [<- numAt_eq];exact h2 j tb_g%
end
theorem ZC {K:aW} {Q:VK}
  (Pv:Nat->List V->Hp->Prop) (h0:Pv 0 [] (upd H D (.lst [])))
  (hl:∀ i ys H,i<=xs.length->Pv i ys H->SqT K H a xs/\H D=some (.lst ys)/\ys.length<sizeLine)
  (hs:∀ i ys H x,xs[i]? = some x->Pv i ys H->tt (mj σ (some x) caps) H fun b H2=>if b=true then te (mj σ (some x) caps) H2 fun y H3=>H3 D=some (.lst ys)/\Pv (i+1) (ys++[y]) (upd H3 D (.lst (ys++[y]))) else H2 D=some (.lst ys)/\Pv (i+1) ys H2)
  (hd:∀ ys H,Pv xs.length ys H->Q (.ref D) H)
  (mT:∀ σ H (R R':Bool->Hp->Prop),(∀ b H,R b H->R' b H)->tt σ H R->tt σ H R')
  (mE:∀ σ H (Q Q':VK),(∀ y H,Q y H->Q' y H)->te σ H Q->te σ H Q'):Bs (Itt K a) caps tt te σ D Q H:=by
 refine ⟨fun i m ys G=>m=xs.length-i/\i<=xs.length/\Pv i ys G,⟨xs.length,rfl,dF _,h0⟩,?_⟩
 rintro i m ys G ⟨rfl,hi,p⟩
 obtain ⟨sq,q,z⟩:=hl i ys G hi p
 refine ⟨q,?_⟩
 rcases ig i xs.length with lt | ge
 ·refine .inr ⟨⟨xs,xs[i],sq,fY lt⟩,z,fun x G' y=>?_⟩
  obtain ⟨rfl,y⟩:=y
  refine mT _ _ _ _ (fun b G2 hb=>?_) (hs i ys _ x (y xs sq) p)
  cases b with
  | true =>
   rw [if_pos rfl] at hb ⊢
   exact mE _ _ _ _ (fun y G3 ⟨a,b⟩=>⟨a,xs.length-(i+1),by lia,rfl,lt,b⟩) hb
  | false =>
   rw [if_neg (by decide)] at hb ⊢
   exact ⟨hb.1,xs.length-(i+1),by lia,rfl,lt,hb.2⟩
 ·obtain rfl:i=xs.length:=by lia
  exact .inl ⟨⟨xs,sq,bh _⟩,hd ys G p⟩
section
variable {e se:Expr} {lo hi:Option Expr} {tl th ts:TO} {p2 pos:Pos}
noncomputable def Rz {α:Type} (xs:List α) (lo hi:Option Int):List α :=
 (sliceRange (j4 lo hi (some 2) xs.length).1 (j4 lo hi (some 2) xs.length).2.1 (j4 lo hi (some 2) xs.length).2.2).filterMap (xs[·]?)
noncomputable def rSl2 (K:aW):V->Option Int->Option Int->Hp->VK->Prop:=fun x lo hi H Q=>∃ a xs,x = .ref a/\SqL K H a xs/\∀ p,H p=none->Q (.ref p) (upd H p (.lst (Rz xs lo hi)))
noncomputable def tSl2 (K:aW) (te:TE) (tl th ts:TO):TE:=fun σ H Q=>te σ H fun x H1=>tl σ H1 fun l H2=>th σ H2 fun u H3=>ts σ H3 fun t H4=>t=some 2/\rSl2 K x l u H4 Q
theorem ajv:∀ {xs:List V} {us:List Value},Vals xs us->∀ ks:List Nat,Vals (ks.filterMap (xs[·]?)) (ks.filterMap (us[·]?)):=by
 intro xs us r ks
 induction ks with
 | nil=>exact .nil
 | cons k ks ih =>
  rw [Gj,Gj]
  rcases ig k xs.length with h | h
  ·obtain ⟨u,eu,ru⟩:=r.get (fY h)
   rw [fY h,eu]
   exact .cons ru ih
  ·rw [vo h,vo (by rw [<- r.length];exact h)]
   exact ih
theorem ahz {α:Type} (xs:List α) (lo hi:Option Int):(Rz xs lo hi).length<=xs.length:=by
 have:=slicePick_size_le (Array.replicate xs.length Value.none) lo hi (some 2)
 rw [ae6] at this
 unfold Jd at this
 rw [cW,ae6] at this
 refine gM (Ju ?_) this
 unfold Rz
 rw [adn,adn]
 apply List.countP_congr
 intro k _
 simp [Array.getElem?_replicate]
theorem acP (he:PE X e te) (hl:PO X lo tl) (hu:PO X hi th) (hs:PO X (some se) ts):PE X (.Subscript e (.Slice lo hi (some se) p2) pos) (tSl2 X.K te tl th ts):=by
 walk_at "e"
 refine Yi (thn (he pins s σ H _ I h) fun v s1 ⟨x,H1,I1,r1,q1⟩=>?_)
 refine wpAny_Slice (thn (hl pins s1 σ H1 _ I1 q1) fun vl s2 ⟨l,H2,I2,pl,q2⟩=>thn (hu pins s2 σ H2 _ I2 q2) fun vu s3 ⟨u,H3,I3,pu,q3⟩=>thn (hs pins s3 σ H3 _ I3 q3) fun vs s4 ⟨t,H4,I4,pt,q4⟩=>?_)
 obtain ⟨rfl,a,xs,rfl,hx,q⟩:=q4
 cases r1
 have I5:Inv X pins σ H4 { s4 with heap:=s4.heap.push { cls:=.type "slice",data:=.fields #[vl,vu,vs] } }:=I4.kept (t':=s4.toks) fun b ob q=>dX _ q
 obtain ⟨its,r,ht,hz⟩:=I5.list hx
 have hlen:=r.length
 show wpAny (model X.prog X.w) X.A (Qw e (.Slice lo hi (some se) p2) (.ref a) (.ref s4.heap.objs.size)) (EP X pins σ Q) X.xe { s4 with heap:=s4.heap.push { cls:=.type "slice",data:=.fields #[vl,vu,vs] } }
 refine tail_any (ops:=[.ref a,.ref s4.heap.objs.size]) ht.isList.typeIs Wl.lookup ?_ (by with_unfolding_all rfl)
 refine adT ht.isList (afK ..) pl pu pt (by simp) ?_ (by rw [cW];lia)
 have ec:Jd its.toArray l u (some 2)=(Rz its l u).toArray:=by
  unfold Jd Rz
  rw [cW]
  simp only [V1]
 rw [ec]
 refine ⟨.ref _,_,I5.laid (t':=s4.toks) (o:=.lst (Rz xs l u)) (fun b ob q=>dX _ q) (bh _) ?_,rfl,q _ (I5.hok.fresh (bh _))⟩
 refine ⟨gM (ahz xs l u) hz,_,0,?_,eU _ rfl⟩
 unfold Rz
 rw [<- hlen]
 exact ajv r _
end
theorem acQ {ns:List Int} {t:Int} (ht:t=0\/t=1):Rz (ns.map V.int) (some t) (some ((ns.length:Int)-(ns.length:Int) % 2))=(RG.pick (decide (t=1)) ns).map V.int:=by
 have hp:∀ (ns:List Int) (o:Bool),RG.pick o ns=(oU (ns.length / 2)).filterMap fun k=>ns[(if o then 1 else 0)+2*k]?:=by
  intro ns o
  fun_induction RG.pick o ns with
  | case1 a b r ih =>
   have e:(a::b::r).length / 2=r.length / 2+1:=by simp only [dH];lia
   have sh:(fun k=>(a::b::r)[(if o=true then 1 else 0)+2*k]?) ∘ Nat.succ=fun k=>r[(if o=true then 1 else 0)+2*k]?:=by
    funext k
    show (a::b::r)[(if o=true then 1 else 0)+2*(k+1)]? = _
    rw [show (if o=true then 1 else 0)+2*(k+1)=(if o=true then 1 else 0)+2*k+1+1 by lia,adu,adu]
   rw [ih,e,List.range_succ_eq_map,Gj,adE,sh]
   cases o <;> rfl
  | case2 l h =>
   match l,h with
   | [],_=>rfl
   | [x],_=>simp
   | a::b::r,h=>exact absurd rfl (h a b r)
 unfold Rz
 rw [hp,adD]
 have hn:(ns.map V.int).length=ns.length:=aZ _
 rw [hn]
 have b1:(j4 (some t) (some ((ns.length:Int)-(ns.length:Int) % 2)) (some 2) ns.length).1=min t ns.length:=by
  rcases ht with rfl | rfl <;> simp [j4] <;> lia
 have b2:(j4 (some t) (some ((ns.length:Int)-(ns.length:Int) % 2)) (some 2) ns.length).2.1=(ns.length:Int)-(ns.length:Int) % 2:=by
  simp [j4];lia
 have b3:(j4 (some t) (some ((ns.length:Int)-(ns.length:Int) % 2)) (some 2) ns.length).2.2=2:=rfl
 rw [b1,b2,b3]
 unfold sliceRange
 rw [adE]
 have cnt:(if (2:Int)>0 then (if min t ns.length<(ns.length:Int)-(ns.length:Int) % 2 then ((ns.length:Int)-(ns.length:Int) % 2-min t ns.length+2-1) / 2 else 0) else (if min t ns.length>(ns.length:Int)-(ns.length:Int) % 2 then (min t ns.length-((ns.length:Int)-(ns.length:Int) % 2)-2-1) / (-2) else 0)).toNat=ns.length / 2:=by
  rw [if_pos (by decide)]
  split
  ·rcases ht with rfl | rfl <;> lia
  ·rcases ht with rfl | rfl <;> lia
 rw [cnt]
 have fm:∀ (ks:List Nat) (f g:Nat->Option V),(∀ k∈ks,f k=g k)->ks.filterMap f=ks.filterMap g:=by
  intro ks f g
  induction ks with
  | nil=>intro _;rfl
  | cons k r ih =>
   intro h
   rw [Gj,Gj,h k eN,ih fun j hj=>h j (fB _ hj)]
 refine fm _ _ _ fun k hk=>?_
 have hk:=OJ.mp hk
 show (ns.map V.int)[(min t ns.length+2*(k:Int)).toNat]? = _
 have:(min t ns.length+2*(k:Int)).toNat=(if decide (t=1) then 1 else 0)+2*k:=by
  rcases ht with rfl | rfl
  ·simp;lia
  ·simp;lia
 rw [this,gZ]
noncomputable def Itv (K:aW) (a:Addr) (n:Nat):It :=
 ⟨fun i H=>∃ xs,SqL K H a xs/\xs.length=n/\i<n,fun i H x H'=>H'=H/\∀ xs,SqL K H a xs->xs[n-1-i]? = some x,fun i _=>n<=i⟩
theorem ahA {K:aW} (a it:Addr) (n:Nat):Turn P w K tg (Itv K a n) [it] it (fun i h=>i<=n/\h.IsRevIter it a ((n:Int)-1-i)) where
 mem:=by simp
 obj:=fun i h st b hb=>by
  have e:b=it:=by simpa using hb
  subst e
  obtain ⟨_,o,e,c,d⟩:=st
  exact ⟨o,e,fun v z=>by rw [d] at z;cases z⟩
 keep:=fun i h h' st k=>⟨st.1,st.2.at fun o e=>k it (by simp) o e⟩
 item:=by
  walk_at "c"
  subst hP hw hK
  obtain ⟨xs,hq,hn,hi⟩:=hg
  obtain ⟨its,rv,p,hz⟩:=I.list hq
  have hx:xs[n-1-i]? = some (xs[n-1-i]'tb_g%):=fY tb_g%
  obtain ⟨u,hu,ru⟩:=rv.get hx
  k_dat it "d"
  have st2:=st.2
  rw [show (n:Int)-1-i=((n-1-i:Nat):Int) by lia] at st2
  refine wpAny_pyNext_rev_item st2 p.isList (x:=u) (by simpa using hu) fun h' st' sb=>?_
  rw [show ((n-1-i:Nat):Int)-1=(n:Int)-1-((i+1:Nat):Int) by lia] at st'
  have I1:Inv X pins σ H { s with heap:=h' }:=I.turned (t':=s.toks) (fun b o hb e=>(sb.2 b hb).trans e) f0 f1 f3 f4 f5
  obtain ⟨o,e,c,d⟩:=id st'
  exact ⟨u,rfl,aaz (s:={ s with heap:=h' }) e c d (by decide) ⟨_,H,I1,ru,⟨rfl,fun ys hy=>by rw [I.T6 hy hq];exact hx⟩,⟨hi,st'⟩,fun b hb=>(hf b hb).1⟩⟩
 done:=by
  walk_at "c"
  subst hP hw hK
  have hle:n<=i:=hg
  have e:i=n:=Nat.le_antisymm st.1 hle
  subst e
  k_dat it "d"
  have st2:=st.2
  rw [show (i:Int)-1-i = -1 by lia] at st2
  exact wpAny_pyNext_rev_end (I.ok.hd hc) st2 fun h' eb=>⟨rfl,I.turned (t':=s.toks) (fun b o hb e=>eb b o hb e) f0 f1 f3 f4 f5⟩
 self:=fun _ _ _ _ _ st h=>O4 st.2 h
noncomputable def iRev (K:aW) (ta:TA):TI:=fun σ H R=>ta σ H fun vs H1=>∃ a xs,vs=[.ref a]/\SqL K H1 a xs/\R (Itv K a xs.length) H1
theorem anj {a:Expr} {pos:Pos} (hg:Gl X "reversed") (hm:X.mg "reversed" = none) (ha:PA X [a] ta) (hs:cO [a] X.env=[(false,eval a X.env)]:=by rfl) :
  PI X tg (.Call (.Name "reversed" p) [a] [] pos) (iRev X.K ta):=by
 intro pins s σ H R I h
 refine Call_ (nG I hg hm Yd (Gm (thn (ha pos pins s σ H _ I h) fun us s1 ⟨vs,H1,I1,r1,q1⟩=>?_) hs rfl))
 obtain ⟨l,xs,e,hq,q⟩:=q1
 subst e
 obtain ⟨u,rfl,ru⟩:=vals1 r1
 cases ru
 obtain ⟨its,rv,pl,hz⟩:=I1.list hq
 have hlen:=rv.length
 refine Wk pl.isList ?_
 have el:((its.toArray.size:Nat):Int)-1=(xs.length:Int)-1-((0:Nat):Int):=by rw [cW];lia
 refine O4 ⟨_,eU _ rfl,rfl,rfl⟩ ⟨_,[s1.heap.objs.size],_,Itv X.K l xs.length,H1,rfl,I1.kept (t':=s1.toks) fun b o e=>dX _ e,ahA l _ _,⟨dF _,_,eU _ rfl,rfl,by rw [<- el];rfl⟩,fun b hb=>?_,q⟩
 have e:b=s1.heap.objs.size:=by simpa using hb
 subst e
 exact I1.ab9 (bh _) (I1.hok.fresh (bh _))
theorem ajw {K:aW} {tb:TS} {D:Ends} (Pv:Nat->St->Hp->Prop) (h0:Pv 0 σ H) (hl:∀ i σ H,i<=xs.length->Pv i σ H->SqL K H a xs)
  (hs:∀ i x σ H,xs.reverse[i]? = some x->Pv i σ H->g x σ H fun σ2 H2=>tb { D with nx:=Pv (i+1),ct:=Pv (i+1),bk:=D.nx } σ2 H2) (hd:∀ σ H,Pv xs.length σ H->D.nx σ H) :
  ∃ W:Nat->Nat->St->Hp->Prop,(∃ m,W 0 m σ H)/\∀ i m σ H,W i m σ H ->
   ((Itv K a xs.length).stop i H/\D.nx σ H)\/((Itv K a xs.length).go i H/\∃ N:St->Hp->Prop,(∀ σ' H',N σ' H'->∃ m',m'<m/\W (i+1) m' σ' H')/\∀ x H',(Itv K a xs.length).yld i H x H'->g x σ H' fun σ2 H2=>tb { D with nx:=N,ct:=N,bk:=D.nx } σ2 H2):=by
 refine ⟨fun i m σ H=>m=xs.length-i/\i<=xs.length/\Pv i σ H,⟨xs.length,by simp,dF _,h0⟩,?_⟩
 rintro i m σ H ⟨rfl,hi,p⟩
 have q:=hl i σ H hi p
 by_cases hlt:i<xs.length
 ·refine .inr ⟨⟨xs,q,rfl,hlt⟩,Pv (i+1),fun σ' H' p'=>⟨xs.length-(i+1),by lia,rfl,hlt,p'⟩,fun x H' y=>?_⟩
  obtain ⟨rfl,hx⟩:=y
  exact hs i x σ H' (by rw [V2 hlt];exact hx xs q) p
 ·have e:i=xs.length:=by lia
  subst e
  exact .inl ⟨bh _,hd σ H p⟩
theorem ZD:Pn (.type "list_reverseiterator") "__len__" = pure none:=by rw [O9,O3];kernel_rfl
theorem ahB:Pn (.type "list_reverseiterator") "__length_hint__" = pure (some (.builtin "list_reverseiterator.__length_hint__")):=by rw [O9,O3];kernel_rfl
section
variable {s:Shared} {r l:Addr}
theorem ahC {Q:Bool->Shared->Prop} (ty:s.TypeIs (.ref r) "list_reverseiterator") (h:Q false s):wpAny (model prog w) A (Qu (.ref r)) Q E s:=by
 unfold Qu
 refine aJ (O8 ty ZD ?_)
 wp_delta
 refine um (fun q=>absurd q (by decide)) fun _=>?_
 refine um (fun q=>absurd q (by decide)) fun _=>?_
 refine aJ (O8 ty ahB ?_)
 generalize hid:("list_reverseiterator.__length_hint__" : String)=nm
 wp_delta
 rw [show splitId nm=some ("list_reverseiterator","__length_hint__") from by rw [<- hid];decide +kernel]
 subst hid
 refine aJ (O7 (T := "list_reverseiterator") (b:=true) ty (by rw [Pb];kernel_rfl) ?_)
 refine um (fun q=>absurd q (by decide)) fun _=>?_
 refine um (fun _=>?_) fun q=>absurd tb_g% q
 refine um (fun q=>absurd q tb_g%) fun _=>?_
 exact aR h
noncomputable def Behind (items:Array Value) (i:Nat) (v:Value):Prop:=items[items.size-1-i]? = some v
theorem U0 (hh:A.handled=none) (hr:s.heap.IsRevIter r l ((items.size:Int)-1)) (hl:s.heap.IsList l items) (hrl:l≠r) (S:Addr) (n1:S≠r) (n2:S≠l) (res:Value) (c:Nat)
  (hS:s.heap.get? S=some { cls:=.type "list",data:=.seq #[] c }) (hz:items.size<=sizeLine)
  (hR:∀ h' tk acc d,(∀ b o,b≠S->b≠r->s.heap.get? b=some o->h'.get? b=some o)->h'.get? S=some { cls:=.type "list",dict:=none,data:=.seq acc d,slots:=#[] }->Jh (Behind items) acc items.size->R (.ok (.ret res)) { s with heap:=h',toks:=tk }) :
  wpAny (model prog w) A.in1 (Bb (.ref S) (.ref r) res) (fun fin t=>match fin with | .done f=>R (.ok f) t | .again k=>k.quiet=true/\f9 (model prog w) A k R t) (fun e t=>R (.error e) t) s:=by
 have W:=Walks.listRev (prog:=prog) (w:=w) (A:=A.in1) hh r l hrl items
 have away:S∉[r,l]:=by
  simp only [cP,iW,or_false,not_or]
  exact ⟨n1,n2⟩
 unfold Bb
 refine aJ (IV (T := "list_reverseiterator") hr.typeIs ?_)
 have e1:Qv (.ref S) (.ref r)=false:=by simp [Qv,n1]
 have e2:(Value.type "list_reverseiterator" == Value.type "list")=false:=by decide
 have e3:(Value.type "list_reverseiterator" == Value.type "tuple")=false:=by decide
 simp only [e1,e2,e3,Bool.or_false,aeJ,if_false]
 refine aJ (O4 hr ?_)
 refine aJ (oh (ahC hr.typeIs ?_))
 refine um (fun q=>absurd q (by decide)) fun _=>aR ⟨oW PySem.F.plain_extend_loop _,?_⟩
 refine adX W.toS hz S away res items.size 0 _ #[] c rfl (dF _) ⟨dF _,by simpa using hr,hl⟩ hS (afV _) fun t acc d hm hS2 hacc=>?_
 rw [Moved.eq_with hm]
 refine hR t.heap t.toks acc d (fun b o hb hb2 e=>hm.heap b o (fun m=>?_) e) hS2 hacc
 rcases cP.mp m with q | q
 ·exact hb q
 ·exact hb2 (dh.mp q)
theorem ahD (hh:A.handled=none) (hr:s.heap.IsRevIter r l ((items.size:Int)-1)) (hl:s.heap.IsList l items) (hrl:l≠r) (S:Addr) (n1:S≠r) (n2:S≠l)
  (hS:s.heap.get? S=some { cls:=.type "list",data:=.seq #[] }) (hz:items.size<=sizeLine)
  (hR:∀ h' tk acc d,(∀ b o,b≠S->b≠r->s.heap.get? b=some o->h'.get? b=some o)->h'.get? S=some { cls:=.type "list",dict:=none,data:=.seq acc d,slots:=#[] }->Jh (Behind items) acc items.size->R (.ok (.ret .none)) { s with heap:=h',toks:=tk }) :
  wpAny (model prog w) A.in1 (dZ.«list.__init__» ⟨[.ref S,.ref r],[]⟩) (fun fin t=>match fin with | .done f=>R (.ok f) t | .again k=>k.quiet=true/\f9 (model prog w) A k R t) (fun e t=>R (.error e) t) s:=by
 show wpAny _ _ (do let was <- XR (.ref S);alE (.ref S) (fun _=>#[]);letGo was.toList.reverse;Bb (.ref S) (.ref r) .none) _ _ s
 refine aJ ?_
 unfold XR
 refine aJ (v8 hS rfl (aR ?_))
 show wpAny _ _ (W9 S (fun _=>#[]) >>= fun _=>letGo (#[]:Array Value).toList.reverse >>= fun _=>Bb (.ref S) (.ref r) Value.none) _ _ s
 refine aJ (DR hS rfl ?_)
 have hS2:=Jq (pq (fun _=>(#[]:Array Value))) hS rfl
 have rest:∀ b o,b≠S->s.heap.get? b=some o->(s.heap.update S (pq (fun _=>(#[]:Array Value)))).get? b=some o:=fun b o n e=>(yQ _ _ (aU n)).trans e
 refine aJ (Ja ?_)
 refine U0 hh (hr.at fun o e=>rest r o (aU n1) e) (hl.at fun o e=>rest l o (aU n2) e) hrl S n1 n2 .none _ hS2 hz fun h' tk acc d hk hS3 hacc=>?_
 exact hR h' tk acc d (fun b o n m e=>hk b o n m (rest b o n e)) hS3 hacc
theorem ahE (hh:A.handled=none) (hr:s.heap.IsRevIter r l ((items.size:Int)-1)) (hl:s.heap.IsList l items) (hrl:l≠r) (hz:items.size<=sizeLine)
  (hQ:∀ h' tk acc d,(∀ b o,b≠r->s.heap.get? b=some o->h'.get? b=some o)->h'.get? s.heap.objs.size=some { cls:=.type "list",dict:=none,data:=.seq acc d,slots:=#[] }->Jh (Behind items) acc items.size->Q (.ref s.heap.objs.size) { s with heap:=h',toks:=tk }) :
  wpAny (model prog w) A (call (.type "list") [.ref r]) Q E s:=by
 refine callType_codes (Q₁:=fun o t=>o = .ref s.heap.objs.size/\t={ s with heap:=s.heap.push { cls:=.type "list",data:=.seq #[] } }) PySem.F.called_list (PySem.F.typeCall_list_1 _) PySem.F.entry_list_init (code_list_new _ ⟨rfl,rfl⟩) fun o t ht=>?_
 obtain ⟨rfl,rfl⟩:=ht
 have hS:(s.heap.push { cls:=.type "list",data:=.seq #[] }).get? s.heap.objs.size=some { cls:=.type "list",data:=.seq #[] }:=eU _ rfl
 obtain ⟨o1,g1,_⟩:=id hr
 obtain ⟨o2,g2,_⟩:=id hl
 refine ⟨⟨_,hS,rfl⟩,PySem.F.args_list_init_2 _ _,ahD (A:=A.in1) hh (hr.at fun o e=>dX _ e) (hl.at fun o e=>dX _ e) hrl _ (o9 (bR g1)) (o9 (bR g2)) hS hz fun h' tk acc d hk hS2 hacc=>?_⟩
 exact ⟨rfl,hQ h' tk acc d (fun b o n e=>hk b o (cM (bR e)) n (dX _ e)) hS2 hacc⟩
theorem RB:∀ {xs:List V} {us:List Value},us.length=xs.length->(∀ (j:Nat) (x:V) (u:Value),xs[j]? = some x->us[j]? = some u->RelV x u)->Vals xs us
 | [],[],_,_=>.nil
 | [],_::_,h,_=>by cases h
 | _::_,[],h,_=>by cases h
 | x::xs,u::us,h,k=>.cons (k 0 x u rfl rfl) (RB (by simpa using h) fun j y v hy hv=>k (j+1) y v (by simpa using hy) (by simpa using hv))
end
section
variable {l:Expr} {p' pos pos':Pos}
noncomputable def ahF (K:aW) (ta:TA):TE:=fun σ H Q=>ta σ H fun vs H1=>∃ a xs,vs=[.ref a]/\SqL K H1 a xs/\∀ q,H1 q=none->Q (.ref q) (upd H1 q (.lst xs.reverse))
theorem ZF (hm0:X.mg "list" = none) (hm1:X.mg "reversed" = none) (ha:PA X [l] ta) (hc:X.calm=true) (hg0:Gl X "list" := by rfl) (hg1:Gl X "reversed" := by rfl)
  (he:cO [.Call (.Name "reversed" p') [l] [] pos'] X.env=[(false,eval (.Call (.Name "reversed" p') [l] [] pos') X.env)]:=by rfl) (hs:cO [l] X.env=[(false,eval l X.env)]:=by rfl) :
  PE X (.Call (.Name "list" p) [.Call (.Name "reversed" p') [l] [] pos'] [] pos) (ahF X.K ta):=by
 walk_at "e"
 refine Call_ (nG I hg0 hm0 boot_list (Gm ?_ he rfl))
 rw [he]
 refine zX (Call_ (nG I hg1 hm1 Yd (Gm (thn (ha pos' pins s σ H _ I h) fun us s1 ⟨vs,H1,I1,r1,q1⟩=>?_) hs rfl)))
 obtain ⟨a,xs,e,hq,q⟩:=q1
 subst e
 obtain ⟨u,rfl,ru⟩:=vals1 r1
 cases ru
 obtain ⟨its,rv,pl,hz⟩:=I1.list hq
 have hlen:=rv.length
 refine Wk pl.isList (Er ?_)
 show wpAny _ _ (call (.type "list") [.ref s1.heap.objs.size]) _ _ _
 have hla:a≠s1.heap.objs.size:=by
  obtain ⟨o,g,_⟩:=pl.isList
  exact cM (bR g)
 refine ahE (items:=its.toArray) (I1.ok.hd hc) ⟨_,eU _ rfl,rfl,rfl⟩ (pl.isList.at fun o e=>dX _ e) hla (by rw [cW];lia) fun h' tk acc d hk hS hacc=>?_
 have kp:∀ b o,s1.heap.get? b=some o->h'.get? b=some o:=fun b o e=>hk b o (cM (bR e)) (dX _ e)
 have hsz:(s1.heap.push (revObj a ((its.toArray.size:Int)-1))).objs.size=s1.heap.objs.size+1:=Qx _ _
 have rr:Vals xs.reverse acc.toList:=RB (by rw [qx,hacc.1,cW,yO];lia) fun j x u hx hu=>by
  have hj:j<xs.length:=by
   have:=(gH.mp hx).1
   rwa [yO] at this
  rw [V2 hj] at hx
  have hb:Behind its.toArray j u:=hacc.2 j u (by rw [<- qw];exact hu)
  unfold Behind at hb
  rw [cW,<- hlen] at hb
  obtain ⟨v,hv,rvv⟩:=rv.get hx
  have:u=v:=bW (hb.symm.trans (by simpa using hv))
  rw [this];exact rvv
 refine ⟨.ref _,_,I1.laid (a:=(s1.heap.push (revObj a ((its.toArray.size:Int)-1))).objs.size) (o:=.lst xs.reverse) (t':=tk) kp (by rw [hsz];exact rO _) ?_,rfl,q _ (I1.hok.fresh (by rw [hsz];exact rO _))⟩
 exact ⟨by rw [yO];lia,acc.toList,d,rr,by first | (rw [ae5];exact hS) | simpa using hS⟩
end
section
variable {s:Shared} {h':Heap}
theorem Inv.acR {t:Addr} (I:Inv X pins σ H s) (k:∀ b u,b∉ch->s.heap.get? b=some u->h'.get? b=some u) (hf:∀ b∈ch,yL X pins H b) (ht:s.heap.objs.size<=t)
  (new:dG X.prog X.w (upd H t o) h' t o):Inv X pins σ (upd H t o) { s with heap:=h',toks:=t' }:=by
 have nit:∀ b u,H b=some u->b∉ch:=fun b u e z=>by rw [(hf b z).1] at e;cases e
 have ntt:H t=none:=I.hok.fresh ht
 have lt:∀ b u,s.heap.get? b=some u->b≠t:=fun b u e=>cM (gk (bR e) ht)
 refine I.step (g':=s.gens) (d':=s.drawn) (ch:=ch) (fun b hb=>⟨(hf b hb).2.2.2.1,(hf b hb).2.1,(hf b hb).2.2.2.2.1,(hf b hb).2.2.2.2.2⟩) (fun b o _ _ hc e _=>k b o hc e) (fun b o _ _ hc e _=>⟨o.slots,k b o hc e⟩) (fun b u _ e n=>by rw [aA (lt b u e)];exact n)
  (fun b o hc e=>⟨o,k b o hc e⟩) (fun b xs e=>by rw [aA (aq e ntt)];exact e) (fun b q u e=>by rw [aA (aq e ntt)];exact e) (fun b ps e=>⟨#[],by rw [aA (aq e ntt),e];simp⟩) (fun m hm=>?_) (fun b u e=>?_) I.bare
 ·obtain ⟨o,es,ep,ho,r⟩:=hm
  exact ⟨o,es,ep,k _ o (fun z=>(hf _ z).2.1 rfl) ho,r⟩
 ·by_cases hb:b=t
  ·subst hb;rw [ak] at e;cases e;exact new
  ·rw [aA hb] at e
   refine (I.hok b u e).stay (fun c v hc q=>k c v ?_ q) (fun c q=>by rw [aA (aq q ntt)];exact q) fun c xs q=>by rw [aA (aq q ntt)];exact q
   rcases hc with z | z
   ·rw [z];exact nit b u e
   ·exact nit c _ z
theorem Inv.ajx (I:Inv X pins σ H s) (k:∀ b u,b∉ch->s.heap.get? b=some u->h'.get? b=some u) (hf:∀ b∈ch,yL X pins H b):Inv X pins σ H { s with heap:=h',toks:=t' }:=by
 have nit:∀ b u,H b=some u->b∉ch:=fun b u e z=>by rw [(hf b z).1] at e;cases e
 refine I.step (g':=s.gens) (d':=s.drawn) (ch:=ch) (fun b hb=>⟨(hf b hb).2.2.2.1,(hf b hb).2.1,(hf b hb).2.2.2.2.1,(hf b hb).2.2.2.2.2⟩) (fun b o _ _ hc e _=>k b o hc e) (fun b o _ _ hc e _=>⟨o.slots,k b o hc e⟩) (fun b u _ _ n=>n)
  (fun b o hc e=>⟨o,k b o hc e⟩) (fun _ _ e=>e) (fun _ _ _ e=>e) (fun b ps e=>⟨#[],by rw [e];simp⟩) (fun m hm=>?_) (fun b u e=>?_) I.bare
 ·obtain ⟨o,es,ep,ho,r⟩:=hm
  exact ⟨o,es,ep,k _ o (fun z=>(hf _ z).2.1 rfl) ho,r⟩
 ·refine (I.hok b u e).stay (fun c v hc q=>k c v ?_ q) (fun _ q=>q) fun _ _ q=>q
  rcases hc with z | z
  ·rw [z];exact nit b u e
  ·exact nit c _ z
end
noncomputable def Itz (a b:Addr):It :=
 ⟨fun i H=>∃ xs ys,H a=some (.lst xs)/\H b=some (.lst ys)/\i<xs.length/\i<ys.length,
  fun i H x H'=>∃ t u v xs ys,H a=some (.lst xs)/\H b=some (.lst ys)/\xs[i]? = some u/\ys[i]? = some v/\H t=none/\x = .ref t/\H'=upd H t (.tup [u,v]),
  fun i H=>∃ xs ys,H a=some (.lst xs)/\H b=some (.lst ys)/\(xs.length<=i\/ys.length<=i)⟩
theorem akD {c z TI TO i1 i2:Addr} (h:c∈[z,TO,i1,i2]):c∈[z,TI,TO,i1,i2]:=by
 simp only [cP,iW,or_false] at h ⊢
 rcases h with h | h | h | h <;> simp [h]
structure Z5 (z TI TO i1 i2:Addr):Prop where
 a:TI≠z
 b:TO≠z
 c:i1≠z
 d:i2≠z
 e:TI≠TO
 f:TI≠i1
 g:TI≠i2
 h:TO≠i1
 i:TO≠i2
 j:i1≠i2
theorem Z5.apart {z TI TO i1 i2 b:Addr} (k:Z5 z TI TO i1 i2) {ys:List V} (ha:H a=some (.lst xs)) (hb:H b=some (.lst ys)) (f:∀ c∈[z,TI,TO,i1,i2],H c=none):ZipApart z TI TO i1 i2 a b :=
 ⟨k.a,k.b,k.c,k.d,k.e,k.f,k.g,k.h,k.i,k.j,aq ha (f z (by simp)),aq ha (f TO (by simp)),aq ha (f i1 (by simp)),aq ha (f i2 (by simp)),aq hb (f z (by simp)),aq hb (f TO (by simp)),aq hb (f i1 (by simp)),aq hb (f i2 (by simp))⟩
theorem z5_of (n:Nat):Z5 (n+4) (n+2) (n+3) n (n+1) :=
 ⟨(show ¬ (n+2:Nat)=n+4 by lia),(show ¬ (n+3:Nat)=n+4 by lia),(show ¬ (n:Nat)=n+4 by lia),(show ¬ (n+1:Nat)=n+4 by lia),(show ¬ (n+2:Nat)=n+3 by lia),(show ¬ (n+2:Nat)=n by lia),(show ¬ (n+2:Nat)=n+1 by lia),(show ¬ (n+3:Nat)=n by lia),(show ¬ (n+3:Nat)=n+1 by lia),(show ¬ (n:Nat)=n+1 by lia)⟩
theorem ahG {K:aW} {x1} (a b z TI TO i1 i2:Addr) (k5:Z5 z TI TO i1 i2) :
  Turn P w K (.Tuple elts x1 tpos) (Itz a b) [z,TI,TO,i1,i2] z (fun i h=>IsZip h z TI TO .none/\IsPair h TI (.ref i1) (.ref i2)/\(∃ u v,IsPair h TO u v)/\h.IsListIter i1 a i/\h.IsListIter i2 b i) where
 mem:=by simp
 obj:=fun i h st c hc=>by
  obtain ⟨hz,hTI,⟨u,v,hTO⟩,⟨o1,h1,_,d1⟩,⟨o2,h2,_,d2⟩⟩:=st
  simp only [cP,iW,or_false] at hc
  rcases hc with rfl | rfl | rfl | rfl | rfl
  ·exact ⟨_,hz,fun v z=>by cases z⟩
  ·exact ⟨_,hTI,fun v z=>by cases z⟩
  ·exact ⟨_,hTO,fun v z=>by cases z⟩
  ·exact ⟨_,h1,fun v z=>by rw [d1] at z;cases z⟩
  ·exact ⟨_,h2,fun v z=>by rw [d2] at z;cases z⟩
 keep:=fun i h h' st k=>by
  obtain ⟨hz,hTI,⟨u,v,hTO⟩,⟨o1,h1,r1⟩,⟨o2,h2,r2⟩⟩:=st
  exact ⟨k z (by simp) _ hz,k TI (by simp) _ hTI,⟨u,v,k TO (by simp) _ hTO⟩,⟨o1,k i1 (by simp) _ h1,r1⟩,⟨o2,k i2 (by simp) _ h2,r2⟩⟩
 item:=by
  walk_at "c"
  subst hP hw hK
  obtain ⟨hz,hTI,⟨pa,pb,hTO⟩,h1,h2⟩:=st
  obtain ⟨xs,ys,ea,eb,li,lj⟩:=hg
  obtain ⟨_,us,n,rv,_,gl⟩:=I.GZ ea
  obtain ⟨_,vs,m,rw',_,gr⟩:=I.GZ eb
  have ex:xs[i]? = some xs[i]:=fY li
  have ey:ys[i]? = some ys[i]:=fY lj
  obtain ⟨u,hu,ru⟩:=rv.get ex
  obtain ⟨v,hv,rv'⟩:=rw'.get ey
  have D:=k5.apart ea eb fun c hc=>(hf c hc).1
  refine wpAny_pyNext_zip_item D hz hTI hTO h1 h2 ⟨_,gl,rfl,n,rfl⟩ ⟨_,gr,rfl,m,rfl⟩ (by simpa using hu) (by simpa using hv) fun h' a1 a2 a3 a4 a5 a6 hk=>?_
  have nt:H s.heap.objs.size=none:=I.hok.fresh (bh _)
  have hf4:∀ c∈[z,TO,i1,i2],yL X pins H c:=fun c hc=>hf c (akD hc)
  have I1:Inv X pins σ (upd H s.heap.objs.size (.tup [xs[i],ys[i]])) { s with heap:=h' }:=I.acR (t':=s.toks) (ch:=[z,TO,i1,i2])
   (fun c o hc e=>hk c o (fun q=>hc (by simp [q])) (fun q=>hc (by simp [q])) (fun q=>hc (by simp [q])) (fun q=>hc (by simp [q])) e) hf4 (bh _)
   ⟨by show 2<=sizeLine;decide,[u,v],.cons ru (.cons rv' .nil),⟨_,a5,rfl,_,rfl⟩⟩
  have lts:∀ c∈[z,TI,TO,i1,i2],c≠s.heap.objs.size:=fun c hc=>by
   have:∃ o,s.heap.get? c=some o:=by
    obtain ⟨o1,g1,_⟩:=h1
    obtain ⟨o2,g2,_⟩:=h2
    simp only [cP,iW,or_false] at hc
    rcases hc with rfl | rfl | rfl | rfl | rfl
    ·exact ⟨_,hz⟩
    ·exact ⟨_,hTI⟩
    ·exact ⟨_,hTO⟩
    ·exact ⟨_,g1⟩
    ·exact ⟨_,g2⟩
   obtain ⟨o,e⟩:=this
   exact cM (bR e)
  have fr1:∀ c∈[z,TI,TO,i1,i2],(upd H s.heap.objs.size (.tup [xs[i],ys[i]])) c=none:=fun c hc=>by rw [aA (lts c hc)];exact (hf c hc).1
  refine ⟨.ref s.heap.objs.size,rfl,wpAny_letOwnedTupleGo_zip a1 fun h2' hz' hs'=>?_⟩
  k_dat z "d"
  refine ⟨.ref s.heap.objs.size,_,I1.turned (t':=s.toks) (fun c ob hb q=>(hs'.2 c hb).trans q) (fr1 z (by simp)) f1 f3 f4 f5,rfl,⟨_,_,_,xs,ys,ea,eb,ex,ey,nt,rfl,rfl⟩,⟨hz',?_,⟨u,v,?_⟩,?_,?_⟩,fr1⟩
  ·exact (hs'.2 TI k5.a).trans (hk TI _ k5.a k5.e k5.f k5.g hTI)
  ·exact (hs'.2 TO k5.b).trans a2
  ·obtain ⟨o,e,r⟩:=a3;exact ⟨o,(hs'.2 i1 k5.c).trans e,r⟩
  ·obtain ⟨o,e,r⟩:=a4;exact ⟨o,(hs'.2 i2 k5.d).trans e,r⟩
 done:=by
  walk_at "c"
  subst hP hw hK
  obtain ⟨hz,hTI,⟨pa,pb,hTO⟩,h1,h2⟩:=st
  obtain ⟨xs,ys,ea,eb,le⟩:=hg
  obtain ⟨_,us,n,rv,el,gl⟩:=I.GZ ea
  obtain ⟨_,vs,m,rw',er,gr⟩:=I.GZ eb
  have D:=k5.apart ea eb fun c hc=>(hf c hc).1
  have hend:us.toArray[i]? = none\/vs.toArray[i]? = none:=by
   rcases le with z | z
   ·exact .inl (ae4 (by rw [cW,<- el];exact z))
   ·exact .inr (ae4 (by rw [cW,<- er];exact z))
  refine wpAny_pyNext_zip_end (I.ok.hd hc) D hz hTI hTO h1 h2 ⟨_,gl,rfl,n,rfl⟩ ⟨_,gr,rfl,m,rfl⟩ hend fun h' hk=>⟨rfl,?_⟩
  exact I.ajx (t':=s.toks) (ch:=[z,TO,i1,i2]) (fun c o hc e=>hk c o (fun q=>hc (by simp [q])) (fun q=>hc (by simp [q])) (fun q=>hc (by simp [q])) (fun q=>hc (by simp [q])) e)
   (fun c hc=>hf c (akD hc))
 self:=fun A i s Q E st h=>ad3 st.1 h
noncomputable def iZip (ta:TA):TI:=fun σ H R=>ta σ H fun vs H1=>∃ a b xs ys,vs=[.ref a,.ref b]/\H1 a=some (.lst xs)/\H1 b=some (.lst ys)/\R (Itz a b) H1
theorem ank {a b:Expr} {x1} {pos:Pos} (hg:Gl X "zip") (hm:X.mg "zip" = none) (ha:PA X [a,b] ta) (hs:cO [a,b] X.env=[(false,eval a X.env),(false,eval b X.env)]:=by rfl)
  (hs2:cO [b] X.env=[(false,eval b X.env)]:=by rfl):PI X (.Tuple elts x1 tpos) (.Call (.Name "zip" p) [a,b] [] pos) (iZip ta):=by
 intro pins s σ H R I h
 refine Call_ (nG I hg hm boot_zip (Gm (thn (ha pos pins s σ H _ I h) fun us s1 ⟨vs,H1,I1,r1,q1⟩=>?_) (by rw [hs,hs2]) (by rw [hs2];rfl)))
 obtain ⟨l1,l2,xs,ys,e,e1,e2,q⟩:=q1
 subst e
 cases r1 with
 | cons r rr =>
  cases rr with
  | cons r' rr =>
   cases rr
   cases r
   cases r'
   obtain ⟨_,us,n,rv,_,gl⟩:=I1.GZ e1
   obtain ⟨_,vs,m,rw',_,gr⟩:=I1.GZ e2
   refine call_zip_2 (xs:=us.toArray) (ys:=vs.toArray) ⟨_,gl,rfl,n,rfl⟩ ⟨_,gr,rfl,m,rfl⟩ fun h' z1 z2 z3 z4 z5 z6 hk=>?_
   refine ad3 z1 ⟨_,[s1.heap.objs.size+4,s1.heap.objs.size+2,s1.heap.objs.size+3,s1.heap.objs.size,s1.heap.objs.size+1],_,Itz l1 l2,H1,rfl,I1.kept (t':=s1.toks) hk,
    ahG l1 l2 (s1.heap.objs.size+4) (s1.heap.objs.size+2) (s1.heap.objs.size+3) s1.heap.objs.size (s1.heap.objs.size+1) (z5_of _),⟨z1,z2,⟨_,_,z3⟩,z4,z5⟩,fun c hc=>?_,q⟩
   have hle:s1.heap.objs.size<=c:=by
    simp only [cP,iW,or_false] at hc
    rcases hc with rfl | rfl | rfl | rfl | rfl <;> lia
   exact I1.ab9 hle (I1.hok.fresh hle)
noncomputable def oH (σ:St) (zs:List (Option V)) (caps:List Nat):St:=zs++caps.map fun j=>(σ[j]?).join
noncomputable def Ku (J:It) (g:TG) (k:Nat) (caps:List Nat) (tt:TT) (te:TE) (σ:St) (D:Addr) (Q:VK) (H1:Hp):Prop:=∃ W:Nat->Nat->List V->Hp->Prop,(∃ m,W 0 m [] (upd H1 D (.lst [])))/\∀ i m ys H,W i m ys H ->
 H D=some (.lst ys)/\((J.stop i H/\Q (.ref D) H)\/(J.go i H/\ys.length<sizeLine/\∀ x H',J.yld i H x H'->∀ zs:List (Option V),zs.length=k->g x (oH σ zs caps) H' fun σ2 H2=>(∃ zs':List (Option V),zs'.length=k/\σ2=oH σ zs' caps)/\tt σ2 H2 fun b H3=>if b=true then
  te σ2 H3 fun y H4=>H4 D=some (.lst ys)/\∃ m',m'<m/\W (i+1) m' (ys++[y]) (upd H4 D (.lst (ys++[y])))
  else H3 D=some (.lst ys)/\∃ m',m'<m/\W (i+1) m' ys H3))
noncomputable def anl (wi:TI) (g:TG) (k:Nat) (caps:List Nat) (tt:TT) (te:TE):TE:=fun σ H Q=>wi σ H fun J H1=>∀ D,H1 D=none->Ku J g k caps tt te σ D Q H1
section
variable {s:Shared}
theorem Inv.compT {cl:List (Str × Addr)} {h4:Heap} {tk:Nat} (I:Inv X pins σ H s) (hkind:scope.kind = .function) (hsub:Ke X.env.cells cl)
  (hhas:∀ y,((gC scope X.env).names.lookup y=some .cell\/(gC scope X.env).names.lookup y=some .free)->∃ c,cl.lookup y=some c) (hf:∀ b∈fp,yL X pins H b) (hfo:∀ b∈fp,∃ o,s.heap.get? b=some o)
  (hlen:N.length=k+caps.length) (hcap:∀ (i:Nat) (j:Nat),caps[i]? = some j->Br X N scope cl (i+k) j) (hD:s.heap.objs.size<=D) (hC:s.heap.objs.size<=C) (hDC:C≠D)
  (hk:∀ b o,s.heap.get? b=some o->h4.get? b=some o) (hlist:∃ n,h4.get? D=some { cls:=.type "list",data:=.seq #[] n }) (hns:∃ m,h4.Ns C m) :
  Inv (dD X N scope cl s H fp C) (X.pn++pins) (oH σ (vZ k none) caps) (upd H D (.lst [])) { s with heap:=h4,toks:=tk }:=by
 have hnD:H D=none:=I.hok.fresh hD
 have hnC:H C=none:=I.hok.fresh hC
 have lt:∀ b o,s.heap.get? b=some o->b≠D/\b≠C:=fun b o e=>⟨cM (gk (bR e) hD),cM (gk (bR e) hC)⟩
 have nst:∀ b,b≠X.env.locals->b∉X.fs->b∉frs X.stack:=fun b h1 h2 z=>by
  rcases cP.mp (I.wU b z) with e | e
  ·exact h1 e
  ·exact h2 e
 refine ⟨⟨I.ok.mod,hkind,I.ok.glob,I.ok.blt,hC,fun x y c h1 h2=>I.ok.inj x y c (hsub.of h1) (hsub.of h2),fun y hy=>hhas y hy,fun y c h=>(nomatch h),I.ok.hd,I.ok.frames,.inl rfl,fun b hb=>?_,I.bs,gM I.ok.bsz I.sz,fun b o e hb=>?_,fun b hb=>?_,I.stack,I.yj⟩,
  rfl,I.bare,Un.laid hk hD hnD,?_,fun y c e=>?_,?_,fun y c e=>?_,fun p hp=>?_,?_,?_⟩
 ·obtain ⟨o,e⟩:=hfo b hb
  exact ⟨(lt b o e).2,fun x c q=>(hf b hb).2.2.2.2.1 x c (hsub.of q)⟩
 ·rcases (hf b hb).2.2.2.1 with z | z
  ·exact I.ok.TY b o e z
  ·exact absurd (gk (bR e) I.ok.bsz) (Xr.mpr z)
 ·exact nst b (hf b hb).2.1 (hf b hb).2.2.1
 ·obtain ⟨m,hm⟩:=hns
  obtain ⟨m0,_,hl⟩:=I.loc
  refine ⟨m,hm,fun i y v h1 h2 h3=>?_⟩
  have h2a:(vZ k (none:Option V)++caps.map fun j=>(σ[j]?).join)[i]? = some (some v):=h2
  by_cases hik:i<k
  ·rw [qm (by rw [Dp];exact hik),adq,if_pos hik] at h2a
   cases h2a
  ·rw [vm (by rw [Dp];lia),Dp] at h2a
   obtain ⟨i',rfl⟩:∃ i',i=i'+k:=⟨i-k,by lia⟩
   rw [Nat.add_sub_cancel] at h2a
   have h2':=h2a
   rw [gZ] at h2'
   cases ec:caps[i']? with
   | none=>rw [ec] at h2';cases h2'
   | some j =>
    rw [ec] at h2'
    have Rv:(σ[j]?).join=some v:=bW h2'
    have e2:σ[j]? = some (some v):=by
     cases q:σ[j]? with
     | none=>rw [q] at Rv;cases Rv
     | some z=>rw [q] at Rv;exact congrArg some Rv
    obtain ⟨y',c,n1,n2,k1,k2,lc⟩:=(hcap i' j ec).ok
    have ey:y=y':=by
     have h1':N[i'+k]? = some y:=h1
     rw [n1] at h1';exact (bW h1').symm
    subst ey
    have vis:Vis X.env.scope y:=k1.elim (fun z=>.inr (.inl z)) fun z=>.inr (.inr z)
    obtain ⟨u,ru,lk⟩:=hl j y v n2 e2 vis
    refine ⟨u,ru,.inr ⟨k2,c,lc,?_⟩⟩
    rcases lk with ⟨z,_⟩ | ⟨_,c',lc',ic⟩
    ·rcases k1 with k1 | k1 <;> (rw [z] at k1;cases k1)
    ·rw [hsub.of lc] at lc'
     cases lc'
     obtain ⟨o,ho,hd⟩:=ic
     exact ⟨o,hk c o ho,hd⟩
 ·obtain ⟨v,o,ho,hd⟩:=I.cell y c (hsub.of e)
  exact ⟨v,o,hk c o ho,hd⟩
 ·show (upd H D (.lst [])) C=none
  rw [aA hDC];exact hnC
 ·have n:=I.oA y c (hsub.of e)
  obtain ⟨v,o,ho,hd⟩:=I.cell y c (hsub.of e)
  rw [aA (lt c o ho).1];exact n
 ·have hp':p∈X.pn++pins:=hp
  obtain ⟨e,n,ne,nf,d⟩:=I.pin p hp'
  exact ⟨hk _ _ e,by rw [aA (lt _ _ e).1];exact n,(lt _ _ e).2,nst _ ne nf,d⟩
 ·obtain ⟨n,e⟩:=hlist
  exact I.hok.laid hk hD ⟨dF _,[],n,.nil,e⟩
 ·show (oH σ (vZ k none) caps).length=N.length
  unfold oH
  rw [cV,Dp,aZ,hlen]
end
section
variable {B:bH} {s:Shared}
noncomputable def ahH (P:aP) (w:World) (B:bH) (R:lU->Shared->Prop) (elt tg:Expr) (ifs:List Expr) (it acc:Value) (en:Env) (J:Nat->Shared->Prop) (n:Nat):Option Value->Shared->Prop
 | none,t1=>R (.ok .next) t1
 | some v,t1 =>
  let X:=notedBy (model P w) B en fun e t=>R (.error e) t
  wpAny (model P w) B (IK tg it v) (fun _ t2=>wpAny (model P w) B (rK tg en v) (fun _ t3 =>
   wpAny (model P w) B (forIn ifs true fun c r=>if r=true then do let yes <- Ji c en (eval c en);pure (ForInStep.yield yes) else pure (ForInStep.yield r)) (fun yes t4 =>
    if yes=true then wpAny (model P w) B (eval elt en) (fun x t5=>wpAny (model P w) B (call (.builtin "list.append") [acc,x]) (fun _ t6=>∃ m,m<n/\J m t6) X t5) X t4
    else ∃ m,m<n/\J m t4) X t3) X t2) X t1
theorem ZG {elt:Expr} {pos:Pos} {it acc:Value} {en:Env} (J:Nat->Shared->Prop)
  (owe:∀ n t,J n t->wpAny (model P w) B (lR it) (ahH P w B R elt tg ifs it acc en J n) (notedBy (model P w) B en fun e t'=>R (.error e) t') t) (n:Nat) (h:J n s) :
  f9 (model P w) B (.compLoop (.ListComp elt [⟨tg,iter,ifs,0⟩] scope pos) 0 it acc en) R s:=by
 have same:∀ {X:Value->Shared->Prop} (a:Value) (b:Shared),X a b->X a b:=fun _ _ h=>h
 refine codeAny_loop rfl J (fun n t hJ=>?_) n h
 show wpAny _ B ((compTurn (.ListComp elt [⟨tg,iter,ifs,0⟩] scope pos) 0 it acc en).onRaise (fun x=>do noteFrame x en;theTreesLotGoes x)) _ _ t
 refine wpAny_noted ?_
 rw [compTurn_list]
 refine aJ (Wu (aJ (eO (owe n t hJ) (fun r t1 h1=>?_) same)))
 cases r with
 | none=>exact aR h1
 | some v =>
  refine aJ (eO h1 (fun _ t2 h2=>aJ (eO h2 (fun _ t3 h3=>aJ (eO h3 (fun yes t4 h4=>?_) same)) same)) same)
  cases yes with
  | false=>exact aR ⟨rfl,h4⟩
  | true=>exact aJ (aJ (eO h4 (fun x t5 h5=>aJ (eO h5 (fun _ t6 h6=>aR (aR ⟨rfl,h6⟩)) same)) same))
end
theorem U3 {elt:Expr} {pos:Pos} {cl:List (Str × Addr)} {H2:Hp} {s2:Shared} {Q:VK} {tn:Nat->Heap->Prop} {J:It}
  {RR:Value->Addr->lU->Shared->Prop} {E:Value->Shared->Prop} (hc:X.calm=true)
  (hcell:∀ y∈scope.names,y.2 ≠ .cell) (hkind:scope.kind = .function) (hsub:Ke X.env.cells cl)
  (hhas:∀ y,((gC scope X.env).names.lookup y=some .cell\/(gC scope X.env).names.lookup y=some .free)->∃ c,cl.lookup y=some c)
  (hg:∀ s H fp C,PG (dD X N scope cl s H fp C) tg g) (hlen:N.length=k+caps.length) (hcap:∀ (i:Nat) (j:Nat),caps[i]? = some j->Br X N scope cl (i+k) j)
  (ht:∀ s H fp C,PTs (dD X N scope cl s H fp C) ifs tt) (he:∀ s H fp C,PE (dD X N scope cl s H fp C) elt te)
  (I2:Inv X pins σ H2 s2) (T:Turn X.prog X.w X.K tg J fp it tn) (st2:tn 0 s2.heap) (f2:∀ b∈fp,yL X pins H2 b) (w2:∀ D,H2 D=none->Ku J g k caps tt te σ D Q H2)
  (hRR:∀ D C σ' H' s5,s2.heap.objs.size<=C->Inv (dD X N scope cl s2 H2 fp C) (X.pn++pins) σ' H' s5->Q (.ref D) H'->RR (.ref D) C (.ok .next) s5) :
  wpAny (model X.prog X.w) X.A (Jf []) (fun acc s₃=>wpAny (model X.prog X.w) X.A (ad8 scope X.env.globals cl [] X.env.qual none .none (some X.env)) (fun cenv s₄ =>
   f9 (model X.prog X.w) X.A (.compStart (.ListComp elt [⟨tg,iter,ifs,0⟩] scope pos) 0 (.ref it) acc { cenv with scope:=gC scope X.env }) (RR acc cenv.locals) s₄) E s₃) E s2:=by
 refine Ax (adW hcell (by intro y hy;simp at hy) (fun h₁ hns₁ hsb₁=>?_) hkind)
 dsimp only at hns₁ hsb₁ ⊢
 generalize hH2:s2.heap.push { cls:=.type "list",dict:=none,data:=.seq ([]:List Value).toArray }=G2 at hns₁ hsb₁ ⊢
 have hC:G2.objs.size=s2.heap.objs.size+1:=by rw [<- hH2,wF]
 have hCle:s2.heap.objs.size<=G2.objs.size:=by rw [hC];exact rO _
 have hDC:G2.objs.size≠s2.heap.objs.size:=by rw [hC];exact o9 (wI _)
 have old:∀ b o,s2.heap.get? b=some o->h₁.get? b=some o:=fun b o e =>
  hsb₁.extBut b o (by rw [hC];exact cM (Az (bR e))) (dX _ (hH2 ▸ dX _ e))
 have hacc:∃ n,h₁.get? s2.heap.objs.size=some { cls:=.type "list",data:=.seq #[] n }:=⟨_,hsb₁.extBut _ _ (aU hDC) (dX _ (hH2 ▸ eU _ rfl))⟩
 have hnD:H2 s2.heap.objs.size=none:=I2.hok.fresh (bh _)
 obtain ⟨W,⟨m0,w0⟩,turn⟩:=w2 s2.heap.objs.size hnD
 have fo:∀ b∈fp,∃ o,s2.heap.get? b=some o:=fun b hb=>by
  obtain ⟨o,e,_⟩:=T.obj _ _ st2 b hb
  exact ⟨o,e⟩
 have I3:Inv (dD X N scope cl s2 H2 fp G2.objs.size) (X.pn++pins) (oH σ (vZ k none) caps) (upd H2 s2.heap.objs.size (.lst [])) { s2 with heap:=h₁,toks:=s2.toks+([]:List (Str × Value)).length } :=
  I2.compT hkind hsub hhas f2 fo hlen hcap (bh _) hCle hDC old hacc ⟨_,hns₁⟩
 have st3:tn 0 h₁:=T.keep _ _ _ st2 fun b _ o e=>old b o e
 have nf:∀ b∈fp,b≠s2.heap.objs.size:=fun b hb=>by
  obtain ⟨o,e⟩:=fo b hb
  exact cM (bR e)
 have stat:∀ {H':Hp},(∀ b∈fp,H' b=none)->∀ b∈fp,yL (dD X N scope cl s2 H2 fp G2.objs.size) (X.pn++pins) H' b:=fun {H'} hn b hb=>by
  obtain ⟨f0,f1,f2',f3,f4,f5⟩:=f2 b hb
  obtain ⟨o,e⟩:=fo b hb
  refine ⟨hn b hb,cM (gk (bR e) hCle),fun z=>?_,.inl hb,fun y c q=>f4 y c (hsub.of q),fun p hp=>f5 p hp⟩
  rcases cP.mp (I2.wU b z) with q | q
  ·exact f1 q
  ·exact f2' q
 have loop:f9 (model X.prog X.w) X.A (.compLoop (.ListComp elt [⟨tg,iter,ifs,0⟩] scope pos) 0 (.ref it) (.ref s2.heap.objs.size) (Pu scope cl G2.objs.size X.env))
   (RR (.ref s2.heap.objs.size) G2.objs.size) { s2 with heap:=h₁,toks:=s2.toks+([]:List (Str × Value)).length }:=by
  refine ZG (fun n s'=>∃ i ys σ' H',Inv (dD X N scope cl s2 H2 fp G2.objs.size) (X.pn++pins) σ' H' s'/\(∃ zs:List (Option V),zs.length=k/\σ'=oH σ zs caps)/\tn i s'.heap/\(∀ b∈fp,H' b=none)/\W i n ys H') ?_ m0
   ⟨0,[],_,_,I3,⟨_,Dp,rfl⟩,st3,fun b hb=>by rw [aA (nf b hb)];exact (f2 b hb).1,w0⟩
  rintro n s' ⟨i,ys,σ',H',I',⟨zs,hzs,rfl⟩,st',fr',w'⟩
  obtain ⟨hl,ends⟩:=turn i n ys H' w'
  rcases ends with ⟨stop,q⟩ | ⟨go,hsz,step⟩
  ·refine eO (T.done (dD X N scope cl s2 H2 fp G2.objs.size) rfl rfl rfl hc i _ s' _ H' (fun _ _=>False) I' (stat fr') st' stop) (fun r s5 ⟨hr,I5⟩=>?_) fun _ _ f=>f.elim
   subst hr
   exact hRR _ _ _ _ _ hCle I5 q
  ·refine eO (T.item (dD X N scope cl s2 H2 fp G2.objs.size) rfl rfl rfl hc i _ s' _ H' (fun _ _=>False) I' (stat fr') st' go) (fun r s5 ⟨u,hr,h5⟩=>?_) fun _ _ f=>f.elim
   subst hr
   refine eO h5 (fun _ s6 ⟨y,H6,I6,r6,y6,st6,fr6⟩=>?_) fun _ _ f=>f.elim
   have I6':=I6.pinned (stat fr6) (T.obj _ _ st6)
   have again:∀ {σ7:St} {H7:Hp} {s7:Shared},Inv (dD X N scope cl s2 H2 fp G2.objs.size) ((X.pn++pins)++Fe fp s6.heap) σ7 H7 s7->tn (i+1) s7.heap/\∀ b∈fp,H7 b=none:=fun {σ7 H7 s7} I7=>by
    refine ⟨T.keep _ _ _ st6 fun b hb o e=>(I7.pin (b,o) (qt _ (qt _ (lX hb e)))).1,fun b hb=>?_⟩
    obtain ⟨o,e,d⟩:=T.obj _ _ st6 b hb
    exact (I7.pin (b,o) (qt _ (qt _ (lX hb e)))).2.1
   refine eO (hg s2 H2 fp G2.objs.size _ s6 _ H6 y u _ I6' r6 (step y H6 y6 zs hzs)) (fun _ s7 ⟨σ7,H7,I7,⟨zs7,hz7,e7⟩,q7⟩=>?_) fun _ _ f=>f.elim
   subst e7
   refine eO (ht s2 H2 fp G2.objs.size _ s7 _ _ _ I7 q7) (fun ok s8 ⟨H8,I8,q8⟩=>?_) fun _ _ f=>f.elim
   cases ok with
   | false =>
    obtain ⟨_,m',hm,w8⟩:=q8
    have a8:=again I8
    exact ⟨m',hm,i+1,ys,_,H8,I8.pB,⟨zs7,hz7,rfl⟩,a8.1,a8.2,w8⟩
   | true =>
    refine eO (he s2 H2 fp G2.objs.size _ s8 _ _ _ I8 q8) (fun x9 s9 ⟨y9,H9,I9,r9,l9,m',hm,w9⟩=>?_) fun _ _ f=>f.elim
    refine eO (d8 (X:=dD X N scope cl s2 H2 fp G2.objs.size) _ s9 _ H9 (.ref s2.heap.objs.size) [y9] _ [x9] (fun _ H10=>H10=upd H9 s2.heap.objs.size (.lst (ys++[y9]))) I9 rfl (.cons r9 .nil) ⟨_,ys,y9,rfl,rfl,l9,hsz,rfl⟩) (fun _ s10 ⟨_,H10,I10,_,e10⟩=>?_) fun _ _ f=>f.elim
    subst e10
    have a10:=again I10
    exact ⟨m',hm,i+1,ys++[y9],_,_,I10.pB,⟨zs7,hz7,rfl⟩,a10.1,a10.2,w9⟩
 exact adV loop (T.self _ 0 _ _ _ st3 loop)
theorem ahI {elt:Expr} {pos:Pos} {cl:List (Str × Addr)} {wi:TI} (hc:X.calm=true) (hclos:WW scope X.env=pure cl)
  (hcell:∀ y∈scope.names,y.2 ≠ .cell) (hkind:scope.kind = .function) (hnames:∀ y∈scope.names,y.2 = .local->scope.names.lookup y.1=some .local) (hsub:Ke X.env.cells cl)
  (hhas:∀ y,((gC scope X.env).names.lookup y=some .cell\/(gC scope X.env).names.lookup y=some .free)->∃ c,cl.lookup y=some c)
  (hg:∀ s H fp C,PG (dD X N scope cl s H fp C) tg g) (hlen:N.length=k+caps.length) (hcap:∀ (i:Nat) (j:Nat),caps[i]? = some j->Br X N scope cl (i+k) j)
  (hi:PI X tg iter wi) (ht:∀ s H fp C,PTs (dD X N scope cl s H fp C) ifs tt) (he:∀ s H fp C,PE (dD X N scope cl s H fp C) elt te)
  (hs:∀ x,Iw iter X.env x=pure x:=by intro _;rfl):PE X (.ListComp elt [⟨tg,iter,ifs,0⟩] scope pos) (anl wi g k caps tt te):=by
 walk_at "e"
 rw [aef]
 refine Wj (use:=none) rfl hs hclos hkind hnames (thn (hi pins s σ H _ I h) fun v s1 h1=>thn h1 fun itv s2 h2=>?_)
 obtain ⟨it,fp,tn,J,H2,e,I2,T,st2,f2,w2⟩:=h2
 subst e
 exact U3 hc hcell hkind hsub hhas hg hlen hcap ht he I2 T st2 f2 w2 fun D C σ' H' s5 hC I5 q=>by
  obtain ⟨m,hm,_⟩:=I5.loc
  exact ⟨m,hm,fun h' hs'=>⟨.ref D,H',I2.Ze f2 hC I5 hs',rfl,q⟩⟩
theorem acS {b:Addr} {ys:List V} {Q:VK} (Pv:Nat->List V->Hp->Prop) (h0:Pv 0 [] (upd H D (.lst [])))
  (hl:∀ i zs H,Pv i zs H->H a=some (.lst xs)/\H b=some (.lst ys)/\H D=some (.lst zs)/\zs.length<sizeLine)
  (hs:∀ i zs H x y t (ws:List (Option V)),xs[i]? = some x->ys[i]? = some y->Pv i zs H->H t=none->ws.length=k->g (.ref t) (oH σ ws caps) (upd H t (.tup [x,y])) fun σ2 H2=>(∃ ws':List (Option V),ws'.length=k/\σ2=oH σ ws' caps)/\te σ2 H2 fun u H4=>H4 D=some (.lst zs)/\Pv (i+1) (zs++[u]) (upd H4 D (.lst (zs++[u]))))
  (hd:∀ zs H,Pv (min xs.length ys.length) zs H->Q (.ref D) H)
  (monoG:∀ x σ H (R R':St->Hp->Prop),(∀ σ H,R σ H->R' σ H)->g x σ H R->g x σ H R')
  (mono:∀ σ H (Q Q':VK),(∀ y H,Q y H->Q' y H)->te σ H Q->te σ H Q') :
  Ku (Itz a b) g k caps Bt te σ D Q H:=by
 refine ⟨fun i m zs H=>m=min xs.length ys.length-i/\i<=min xs.length ys.length/\Pv i zs H,⟨min xs.length ys.length,by simp,dF _,h0⟩,?_⟩
 rintro i m zs H ⟨rfl,hi,p⟩
 obtain ⟨qa,qb,qd,hz⟩:=hl i zs H p
 refine ⟨qd,?_⟩
 by_cases hlt:i<min xs.length ys.length
 ·refine .inr ⟨⟨xs,ys,qa,qb,by lia,by lia⟩,hz,fun x H' y ws hw=>?_⟩
  obtain ⟨t,u,v,xs',ys',ea,eb,ex,ey,ht,rfl,rfl⟩:=y
  rw [qa] at ea;cases ea
  rw [qb] at eb;cases eb
  refine monoG _ _ _ _ _ (fun σ2 H2 h2=>⟨h2.1,?_⟩) (hs i zs H u v t ws ex ey p ht hw)
  unfold Bt
  dsimp only
  rw [if_pos rfl]
  exact mono _ _ _ _ (fun y H3 ⟨a,b⟩=>⟨a,min xs.length ys.length-(i+1),by lia,rfl,hlt,b⟩) h2.2
 ·have e:i=min xs.length ys.length:=by lia
  subst e
  exact .inl ⟨⟨xs,ys,qa,qb,by lia⟩,hd zs H p⟩
structure Fly (g:Heap) (H:Hp) (h:Heap) (e C T:Addr) (fl:Value):Prop where
 ue:H e=none
 uT:H T=none
 ge:g.get? e=none
 gT:g.get? T=none
 tr:∃ oe vs oT ts a0,h.get? e=some oe/\(oe.cls = .ref C/\vs[0]? = some a0)/\oe.data = .fields vs/\vs[1]? = some (.ref T)/\T≠e/\h.get? T=some oT/\oT.data = .fields ts/\ts[3]? = some fl
noncomputable abbrev Bare (h:Heap) (l:List Env) (hid:List Addr):Heap:=aer h (frs l++hid)
section
variable {g h':Heap} {H0:Hp} {l:List Env} {fs hid:List Addr} {T:Addr} {a0 fl:Value}
theorem xG (ff:h.FunFrames base l):h.FunFrames (Bare h l hid) l :=
 PySem.W.funFrames_hide ff fun env he _ hf=>Ot _ (V8.mpr ⟨env,he,hf⟩)
theorem Kv (u:Un fs [] H0 H g h) (hok:HOk P w H h) (ff:h.FunFrames base l) (free:∀ b∈frs l,H b=none) (sub:∀ b∈frs l,b∈fs\/g.get? b=none)
  (hh:∀ b∈hid,H b=none/\g.get? b=none) (ue:H e=none) (ge:g.get? e=none) (st:(Bare h l hid).StaysIn h') (up:h.UpToSlots h') (tr:h'.TracedAtW (Bare h l hid) e (.ref C) a0 fl) :
  Un fs [] H0 H g h'/\HOk P w H h'/\∃ T,Fly g H h' e C T fl:=by
 have keep:∀ b o,h.get? b=some o->b∉frs l->b∉hid->h'.get? b=some o:=fun b o q n1 n2=>st b o (Xc _ q fun m=>(cR.mp m).elim n1 n2)
 have slot:∀ b,b∈frs l->∀ o,h.get? b=some o->∃ sl,h'.get? b=some { o with slots:=sl }:=fun b hb o q=>by
  obtain ⟨_,o',q',nf⟩:=ff.mem hb
  rw [q] at q';cases q'
  exact up b o q nf
 have nog:∀ {b:Addr} {o:Obj},g.get? b=some o->b∉hid:=fun q z=>by rw [(hh _ z).2] at q;cases q
 have tracked:∀ b v o,H b=some v->h.get? b=some o->h'.get? b=some o:=fun b v o q r =>
  keep b o r (fun z=>by rw [free b z] at q;cases q) fun z=>by rw [(hh b z).1] at q;cases q
 refine ⟨⟨fun b o q n hb hx=>?_,fun b o q n hb hx=>?_,u.free,fun b o q hx=>?_,u.tups,u.vP,u.zZ⟩,fun b v q=>?_,?_⟩
 ·refine keep b o (u.keep b o q n hb hx) (fun z=>?_) (nog q)
  rcases sub b z with z | z
  ·exact hb z
  ·rw [z] at q;cases q
 ·obtain ⟨sl,r⟩:=u.slot b o q n hb hx
  by_cases z:b∈frs l
  ·obtain ⟨sl',r'⟩:=slot b z _ r
   exact ⟨sl',r'⟩
  ·exact ⟨sl,keep b _ r z (nog q)⟩
 ·obtain ⟨o',r⟩:=u.there b o q hx
  by_cases z:b∈frs l
  ·obtain ⟨sl',r'⟩:=slot b z _ r
   exact ⟨_,r'⟩
  ·exact ⟨o',keep b _ r z (nog q)⟩
 ·refine (hok b v q).stay (fun c o hc r=>?_) (fun _ r=>r) fun _ _ r=>r
  rcases hc with rfl | hc
  ·exact tracked c v o q r
  ·exact tracked c _ o hc r
 ·obtain ⟨oe,vs,T,oT,ts,q1,q2,q3,q4,q5,q6,q7,q8,q9⟩:=tr
  have akE:∀ o,h.get? T=some o->T∈hid:=fun o r=>by
   by_cases z:T∈frs l
   ·obtain ⟨_,o',q',nf⟩:=ff.mem z
    rw [r] at q';cases q'
    obtain ⟨sl,r'⟩:=slot T z o r
    rw [q7] at r';cases r'
    exact absurd q8 (nf ts)
   ·by_cases z':T∈hid
    ·exact z'
    ·have k:=Xc (frs l++hid) r fun m=>(cR.mp m).elim z z'
     rw [q5] at k;cases k
  refine ⟨T,ue,?_,ge,?_,oe,vs,oT,ts,a0,q1,q2,q3,q4,q6,q7,q8,q9⟩
  ·cases r:H T with
   | none=>rfl
   | some v =>
    obtain ⟨o,r'⟩:=(hok T v r).ex
    rw [(hh T (akE o r')).1] at r;cases r
  ·cases r:g.get? T with
   | none=>rfl
   | some o =>
    obtain ⟨o',r'⟩:=u.there T o r (by simp)
    rw [(hh T (akE o' r')).2] at r;cases r
theorem Fly.traced (x:Fly g H h e C T fl):∃ a0,h.TracedAtW (Bare h l [e,T]) e (.ref C) a0 fl:=by
 obtain ⟨oe,vs,oT,ts,a0,q1,q2,q3,q4,q6,q7,q8,q9⟩:=x.tr
 exact ⟨a0,oe,vs,T,oT,ts,q1,q2,q3,q4,PJ _ (by simp),q6,q7,q8,q9⟩
theorem Fly.flying (x:Fly g H h e C T .none) (ff:h.FunFrames base l):∃ a0,Heap.FlyingW (Bare h l [e,T]) l e (.ref C) a0 h:=by
 obtain ⟨a0,tr⟩:=x.traced (l:=l)
 exact ⟨a0,fun b o q=>PL _ q,PJ _ (by simp),xG ff,tr⟩
theorem Fly.held {L:Addr} (x:Fly g H h e C T (nA L)) (ff:h.FunFrames base l):∃ a0,Heap.HeldW (Bare h l [e,T]) l e (.ref C) a0 L h:=by
 obtain ⟨a0,tr⟩:=x.traced (l:=l)
 exact ⟨a0,fun b o q=>PL _ q,PJ _ (by simp),xG ff,tr⟩
theorem Fly.hidden (x:Fly g H h e C T fl):∀ b∈[e,T],H b=none/\g.get? b=none:=fun b hb=>by
 rcases cP.mp hb with rfl | hb
 ·exact ⟨x.ue,x.ge⟩
 ·have z:b=T:=by simpa using hb
  subst z;exact ⟨x.uT,x.gT⟩
theorem Fly.older {g0:Heap} (x:Fly g H h e C T fl) (th:∀ b o,g0.get? b=some o->∃ o',g.get? b=some o'):Fly g0 H h e C T fl:=by
 have no:∀ b,g.get? b=none->g0.get? b=none:=fun b n=>by
  cases q:g0.get? b with
  | none=>rfl
  | some o=>obtain ⟨o',r⟩:=th b o q;rw [n] at r;cases r
 exact ⟨x.ue,x.uT,no _ x.ge,no _ x.gT,x.tr⟩
end
noncomputable def CXE (P:aP) (w:World):CXT:=fun outer H s E ev s'=>∃ e C T H',ev = .ref e/\s'.os=s.os/\rP s'.gens/\Un (frs outer) [] H H' s.heap s'.heap/\HOk P w H' s'.heap/\Fly s.heap H' s'.heap e C T .none/\E (.ref C) none H'
theorem j8 :Passes (CXE P w) X E0:=fun _ _ _ _ _ _ _ ⟨_,_,_,_,_,_,_,_,_,_,z⟩=>z.elim
section
variable {K:aW} {s:Shared} {E:XK}
theorem anm:Passes (CXE P w) (Ab (CXE P w) P w K mg base N qual scope f cd A outer s H E) E:=by
 intro pins σ H1 s1 ev s2 I hx
 obtain ⟨e,C,T,H',rfl,os,bare,u,hok,fly,hE⟩:=hx
 have I2:=I.call' (ch:=[]) os u hok bare (by simp)
 obtain ⟨a0,hfl⟩:=fly.flying I2.stack
 have fly0:Fly s.heap H' s2.heap e C T .none:=fly.older fun b o q=>I.base.there b o q (by intro z;exact absurd (show b∈([]:List Addr) from z) (by simp))
 refine wpAny_leaves_onW I.ok.frames rfl hfl fun h' x1 x2=>?_
 have sub:∀ b∈frs (j7 qual scope s.heap.objs.size f cd::outer),b∈frs outer\/s.heap.get? b=none:=fun b hb=>by
  rcases cP.mp (I2.wU b hb) with z | z
  ·refine .inr ?_
   rw [z];exact Xj I.ok.above
  ·exact .inl z
 obtain ⟨r1,r2,T',r3⟩:=Kv (g:=s.heap) (H0:=H) (fs:=frs outer) (l:=j7 qual scope s.heap.objs.size f cd::outer) I2.base hok I2.stack I2.yj sub fly0.hidden fly0.ue fly0.ge x1.1 x2 x1.2.2.2.at
 exact ⟨e,C,T',H',rfl,os.trans I.os,bare,r1,r2,r3,hE⟩
theorem Fun.okE (F:Fun K x qual st f fd) (S:aM N ps (aG st)) (len:∀ vs H Q E,sp vs H Q E->vs.length=ps.length)
  (hbody:∀ (cdv:Value) (A:bH) (outer:List Env) (s:Shared) (H:Hp) (vs:List V) (Q:VK) (E:XK),jF k (A.deeper (j7 qual (aG st) s.heap.objs.size f cdv))->sp vs H Q E ->
   ∃ t,PSs (Ab (CXE P w) P w K mg base N qual (aG st) f cdv A outer s H E) (jg st) t/\t { nx:=fun _ H'=>Q .non H',rt:=Q } (start N vs) H):cB P w K mg base (CXE P w) (k+1) f fd ps sp:=by
 obtain ⟨oc,od,kV,doc,pm,an,cdv,ct,osl,rfl,lk,hcd⟩:=F.ex
 exact akt lk hcd S len fun A outer s H vs Q E hr hsp=>hbody cdv A outer s H vs Q E hr hsp
end
theorem PS.nox {t:TS} (h:PS X.nox st t):PS X st t:=fun pins s σ H D I hw =>
 eO (h pins s σ H D (I.wish _) hw) (fun _ _ q=>q.lg) fun _ _ z=>kY z
theorem ano {K:aW} (kin:K.In h) (hm:mg x=some (.ref C)) (q:zP K C bmB newId=true):OwnCls x C bmB newId mg h:=by
 refine ⟨hm,?_⟩
 simp only [zP] at q
 split at q
 case h_2=>cases q
 case h_1 ho =>
  rename_i dd cl sl
  split at q
  case h_2=>cases q
  case h_1 hm' hs =>
   rename_i C' bm k0 k1 k2 k3 n k5
   simp only [Jy,beq_iff_eq,aeK] at q
   obtain ⟨⟨⟨⟨⟨e1,e2⟩,e3⟩,e4⟩,e5⟩,e6⟩:=q
   subst e1;subst e2
   cases cl with
   | mk nm bs mro ns qn hd sn sub ab col del =>
    simp only at hm' e3 e5 e6
    subst hm';subst e3
    have es:sl = #[k0,k1,k2,k3,some (.builtin n),k5]:=by cases sl with | mk ls=>simp only at hs;rw [hs]
    subst es
    exact ⟨bm,ns,nm,qn,bs,hd,sn,sub,ab,col,dd,k0,k1,k2,k3,k5,h.nsMap ns,kin _ _ ho,.of_isNs (PySem.W.isNs_of_in kin e5),PySem.W.nsMap_none_of_in kin e5 e6,PySem.W.tail_of_in kin e4⟩
noncomputable def anp (ta:TA) (E:XK) (C:Addr):TS:=fun _ σ H=>ta σ H fun vs H1=>vs.length<=sizeLine/\E (.ref C) none H1
section
variable {K:aW} {s:Shared} {E:XK}
theorem pH {e₀:Expr} {rest:List Expr} {np cpos pos:Pos} {B initId:String} (FB:ExcBaseFacts B newId initId bmB) (q:zP K C bmB newId=true)
  (hg:Gl (Ab (CXE P w) P w K mg base N qual scope f cd A outer s H E) x) (hm:mg x=some (.ref C)) (ha:PA (Ab (CXE P w) P w K mg base N qual scope f cd A outer s H E) (e₀::rest) ta)
  (he:cO (e₀::rest) (Ab (CXE P w) P w K mg base N qual scope f cd A outer s H E).env=(false,eval e₀ (Ab (CXE P w) P w K mg base N qual scope f cd A outer s H E).env)::cO rest (Ab (CXE P w) P w K mg base N qual scope f cd A outer s H E).env:=by rfl)
  (hpl:(gh cpos (cO rest (Ab (CXE P w) P w K mg base N qual scope f cd A outer s H E).env)).any (·.1)=false:=by rfl) (hd:(x == ("__debug__" : Str))=false:=by decide) :
  PS (Ab (CXE P w) P w K mg base N qual scope f cd A outer s H E) (.Raise (some (.Call (.Name x np) (e₀::rest) [] cpos)) none pos) (anp ta E C):=by
 intro pins s1 σ H1 D I h
 obtain ⟨bm,N',nm,qn,bs,hdct,sn,sub,ab,col,dd,k0,k1,k2,k3,k5,mN,hC,hN,hni,TL⟩:=(ano I.mod.kin hm q).obj
 refine wpAny_Raise_call_subT (C:=C) (nm:=nm) (q:=qn) (N:=N') (bs:=bs) (bm:=bm) (hdct:=hdct) (sn:=sn) (sub:=sub) (ab:=ab) (col:=col) (dd:=dd) (k0:=k0) (k1:=k1) (k2:=k2) (k3:=k3) (k5:=k5)
  FB (mN:=mN) (TL.hasType FB.hasBase) (I.ok.hd rfl) ?_ hni (Bh I hg hm ⟨rfl,?_⟩ hd)
 ·rw [he]
  show (false || (gh cpos (cO rest _)).any (·.1))=false
  rw [hpl];rfl
 have h2:=ha cpos pins s1 σ H1 _ I h
 rw [he] at h2 ⊢
 refine QB (eO h2 (fun us s2 ⟨vs,H2,I2,r,z,hE⟩=>?_) fun _ _ y=>y)
 refine ⟨rfl,by rw [<- r.length];exact z,I2.bk _ _ hC,hN.keeps I2.bk,TL.keeps I2.bk,fun h' e hx=>?_⟩
 have ue:H2 e=none:=by
  cases k:H2 e with
  | none=>rfl
  | some v =>
   obtain ⟨o,k'⟩:=(I2.hok e v k).ex
   rw [hx.new] at k';cases k'
 have ge:s.heap.get? e=none:=by
  cases k:s.heap.get? e with
  | none=>rfl
  | some o =>
   obtain ⟨o',k'⟩:=I2.base.there e o k (by intro z;exact absurd (show e∈([]:List Addr) from z) (by simp))
   rw [hx.new] at k';cases k'
 refine wpAny_leaves_madeW (base:=Bare s2.heap (j7 qual scope s.heap.objs.size f cd::outer) []) I2.ok.frames rfl (fun b o k=>PL _ k) (xG I2.stack) hx fun h'' t x1 x2 x3 x4=>?_
 have sub:∀ b∈frs (j7 qual scope s.heap.objs.size f cd::outer),b∈frs outer\/s.heap.get? b=none:=fun b hb=>by
  rcases cP.mp (I2.wU b hb) with z | z
  ·refine .inr ?_
   rw [z];exact Xj I.ok.above
  ·exact .inl z
 obtain ⟨r1,r2,T',r3⟩:=Kv (g:=s.heap) (H0:=H) (fs:=frs outer) (hid:=[]) (l:=j7 qual scope s.heap.objs.size f cd::outer) I2.base I2.hok I2.stack I2.yj sub (by simp) ue ge x1.1 ((amC hx.keeps).trans x4) x1.2.2.2.at
 exact ⟨e,C,T',H2,rfl,I2.os,I2.bare,r1,r2,r3,hE⟩
end
noncomputable def XP (X:Cx) (pins:List (Addr × Obj)) (σ:St) (E:XK) (ev:Value) (s':Shared):Prop:=∃ s0 H0,Inv X pins σ H0 s0/\CXE X.prog X.w X.stack H0 s0 E ev s'
noncomputable abbrev TX:=St->Hp->VK->XK->Prop
noncomputable def PX (X:Cx) (e:Expr) (t:TX):Prop :=
 ∀ (pins:List (Addr × Obj)) (s:Shared) (σ:St) (H:Hp) (Q:VK) (E:XK),Inv X pins σ H s->t σ H Q E->wpAny (model X.prog X.w) X.A (eval e X.env) (EP X pins σ Q) (XP X pins σ E) s
@[reducible] noncomputable def xMeth (C:Addr) (m:Str) (sp:Sp) (dvs:List V) (ta:TE) (t:TA):TX:=fun σ H Q E=>ta σ H fun x H1=>∃ a dx fs,x = .ref a/\H1 a=some (.ins C dx fs)/\fs.lookup m=none /\
 t σ H1 fun vs H2=>sp (x::(vs++dvs)) H2 Q E
section
variable {dvs:List V} {ds:List Value} {m:Str} {pos apos:Pos} {e o:Expr} {es:List Expr} {ta:TE} {t:TA}
theorem ajy {s:Shared} {Q:VK} {E:XK} {us:List Value} {vs:List V} (F:cB X.prog X.w X.K X.mg X.base (CXE X.prog X.w) k f fd ps sp) (hr:jF k X.A) (hb:Binds X.K fd ps ds) (hd:Vals dvs ds)
  (I:Inv X pins σ H s) (r:Vals vs us) (h:sp (vs++dvs) H Q E):wpAny (model X.prog X.w) X.A (call (.ref f) us) (EP X pins σ Q) (XP X pins σ E) s:=by
 have r2:Vals (vs++dvs) (us++ds):=r.append hd
 have hl:(us++ds).length=ps.length:=by rw [<- r2.length];exact F.len _ _ _ _ h
 refine wg (uo (F.run X.A X.stack s H ⟨us,[]⟩ (us++ds) (vs++dvs) Q E hr I.env0 (hb s us I.kIn hl) r2 h) fun r s' hq=>?_)
 cases r with
 | error e=>exact ⟨s,H,I,hq⟩
 | ok fl =>
  cases fl with
  | ret u=>exact I.after hq
  | next=>exact kY hq
  | brk=>exact kY hq
  | cont=>exact kY hq
theorem aaY {pl:Sem Bool} (he:PE X.nox o ta) (c:Cls X.K C) (hm:Meth X.K C m f) (F:cB X.prog X.w X.K X.mg X.base (CXE X.prog X.w) k f fd ps sp) (hr:jF k X.A) (hb:Binds X.K fd ps ds) (hd:Vals dvs ds) (ha:PA X.nox (e::es) t)
  (hst:cO (e::es) X.env=(false,eval e X.env)::cO es X.env:=by rfl) (hpl:(gh pos (cO es X.env)).any (·.1)=false:=by rfl)
  (ht:eval (.Call (.Attribute o m apos) (e::es) [] pos) X.env=(do
   let ov <- eval o X.env
   Je apos.atName
   let (f,first) <- wz [ov] (Jc ov m pl)
   Xa pos f first (gh pos (cO (e::es) X.env)) (zH pos (zF [] X.env))):=by rfl) :
  PX X (.Call (.Attribute o m apos) (e::es) [] pos) (xMeth C m sp dvs ta t):=by
 intro pins s σ H Q E I h
 refine Xb (pl:=pl) (eO (he pins s σ H _ (I.wish _) h) (fun u s1 ⟨x,H1,I1,rx,a,dx,fs,ex,ea,l,q⟩=>?_) fun _ _ z=>z.elim) ht
 subst ex
 obtain rfl:u=Value.ref a:=rx
 refine z9 I1.lg ea c hm l ?_
 refine PN (first:=[.ref a]) (h₀:=X.base) I.ok.mod.kin hm.kp (eO (ha pos pins s1 σ H1 _ I1 q) (fun us s2 ⟨vs,H2,I2,r,q2⟩=>⟨I2.lg.kIn,?_⟩) fun _ _ z=>z.elim) hst hpl
 exact ajy (us:=.ref a::us) (vs:=.ref a::vs) F hr hb hd I2.lg (.cons rfl r) q2
end
noncomputable def U4 (e C:Addr):HO:=.ext fun h=>∃ o,h.get? e=some o/\o.cls = .ref C
structure Catch (K:aW) (C B:Addr):Prop where
 sub:jA K C (.ref B)=some true
 exc:jA K B (.type "BaseException")=some true
 ty:wD K (.ref B)=some (.type "type")
theorem Ky {K:aW} {r q:Bool} {v:Value} (hs:jA K C (.ref B)=some r) (hx:jA K B v=some q) (ht:wD K (.ref B)=some (.type "type")):Qd K (.ref C) (.ref B)=some r:=by
 have h1:(Xi K B).isSome=true:=by
  cases e:Xi K B with
  | none=>unfold jA at hx;rw [e] at hx;cases hx
  | some cd=>rfl
 unfold Qd
 simp only [h1,ht]
 exact hs
theorem Catch.kit {K:aW} (c:Catch K C B):Qd K (.ref C) (.ref B)=some true:=Ky c.sub c.exc c.ty
theorem acT {M:Model} {s:Shared} {K:aW} {oe:Obj} {Q:Bool->Shared->Prop} (kin:K.In s.heap) (c:Catch K C B) (he:s.heap.get? e=some oe) (hc:oe.cls = .ref C) (h:Q true s) :
  wpAny M A (excMatches (.ref e) (.ref B)) Q E s:=by
 obtain ⟨hh,g,d,t,os⟩:=s
 obtain ⟨L1,L2,L3⟩:=aeu (M:=M) kin c.kit
 have L4:=Xe (M:=M) kin c.exc
 have L5:Ei M hh (isSubtype (.type "type") (.type "tuple")) false:=PySem.W.looks_subIn (t:=.type "type") (base:=.type "tuple") (r:=false) kin (show (ad7 "type").map (·.contains (.type "tuple"))=some false by decide +kernel)
 have L6:Ei M hh (WX (.ref B) (.type "tuple")) false:=L1.andThen L5
 have L7:Ei M hh (typeOf (.ref e)) (.ref C):=hc ▸ (afR he).andThen .now
 unfold excMatches
 refine aJ (L6.at ?_)
 rw [if_neg gO]
 refine aJ (aR ?_)
 unfold isExcClass
 simp only [List.forIn_cons,List.forIn_nil]
 refine aJ (aJ (aJ (aJ (L2.at ?_))))
 rw [if_pos rfl]
 refine L4.at ?_
 simp only [Bool.not_true,aeJ,if_false]
 refine aR ?_
 refine aR ?_
 refine aJ (L7.at ?_)
 refine aJ (aJ (aJ (L3.at ?_)))
 rw [if_pos rfl]
 exact aR (aR (aR h))
noncomputable def Cx.marked (X:Cx) (e:Addr):Cx:={ X with A:=X.A.mark (some (.ref e)),calm:=false,xe:=fun _ _=>False }
section
variable {s:Shared}
theorem Inv.marked (I:Inv X pins σ H s) (e:Addr):Inv (X.marked e) pins σ H s :=
 ⟨⟨I.ok.mod,I.ok.kind,I.ok.glob,I.ok.blt,I.ok.above,I.ok.inj,I.ok.has,I.ok.cab,(fun z=>by cases z),I.ok.frames,I.ok.stk,I.ok.exf,I.ok.bs,I.ok.bsz,I.ok.TY,I.ok.ab7,I.ok.z7,I.ok.frf⟩,I.os,I.bare,I.base,I.loc,I.cell,I.free,I.oA,I.pin,I.hok,I.len⟩
theorem Inv.unmarked (hd:X.calm=true->X.A.handled=none) (I:Inv (X.marked e) pins σ H s):Inv X pins σ H s :=
 ⟨⟨I.ok.mod,I.ok.kind,I.ok.glob,I.ok.blt,I.ok.above,I.ok.inj,I.ok.has,I.ok.cab,hd,I.ok.frames,I.ok.stk,I.ok.exf,I.ok.bs,I.ok.bsz,I.ok.TY,I.ok.ab7,I.ok.z7,I.ok.frf⟩,I.os,I.bare,I.base,I.loc,I.cell,I.free,I.oA,I.pin,I.hok,I.len⟩
theorem HX {M:Model} {n:Str} {pos:Pos} {Q:Unit->Shared->Prop} (I:Inv X pins σ H s) (hN:X.N.Nodup) (hi:X.N[i]? = some n) (hl:X.env.scope.names.lookup n=some .local)
  (h:∀ s',Inv X pins (σ.set i none) H s'->Q () s'):wpAny M A (do bindName X.env n .none;unbindBehindTheSuite X.env n pos) Q E s:=by
 obtain ⟨m,hn,hlk⟩:=id I.loc
 have hcls:(X.env.scope.kind == .class || (X.env.scope.kind == .module && X.env.locals != X.env.globals))=false:=by rw [I.ok.kind];rfl
 have hiσ:i<σ.length:=by rw [I.len];exact (gH.mp hi).1
 have cne:=I.cne
 refine wpAny_nameGoes_keeps hl hn hcls fun h' v hn' hs=>h _ ?_
 have away:∀ b o,X.s₀.heap.get? b=some o->h'.get? b=s.heap.get? b:=fun b o e=>hs.2 b (cM (gk (bR e) I.ok.above))
 refine ⟨I.ok,I.os,I.bare,⟨fun b o e n hb hx=>?_,fun b o e n hb hx=>?_,I.base.free,fun b o e hx=>?_,I.base.tups,I.base.vP,I.base.zZ⟩,⟨_,hn',fun j y v' e1 e2 e3=>?_⟩,fun y c e=>?_,I.free,I.oA,fun p hp=>?_,fun b ob e=>?_,by simpa using I.len⟩
 ·exact (away b o e).trans (I.base.keep b o e n hb hx)
 ·obtain ⟨sl,e1⟩:=I.base.slot b o e n hb hx
  exact ⟨sl,(away b o e).trans e1⟩
 ·obtain ⟨o',e1⟩:=I.base.there b o e hx
  exact ⟨o',(away b o e).trans e1⟩
 ·by_cases hj:j=i
  ·subst hj
   rw [Gi hiσ] at e2
   cases e2
  ·rw [Av (aU hj)] at e2
   obtain ⟨u',r',q⟩:=hlk j y v' e1 e2 e3
   refine ⟨u',r',?_⟩
   rcases q with ⟨k,e⟩ | ⟨k,c,e,z⟩
   ·refine .inl ⟨k,?_⟩
    have:y≠n:=fun e=>hj (JL hN e1 (e ▸ hi))
    simp [this,e]
   ·exact .inr ⟨k,c,e,z.sameBut hs (cne y c e)⟩
 ·obtain ⟨w',z⟩:=I.cell y c e
  exact ⟨w',z.sameBut hs (cne y c e)⟩
 ·obtain ⟨e,n,ne,nf,d⟩:=I.pin p hp
  exact ⟨(hs.2 p.1 ne).trans e,n,ne,nf,d⟩
 ·refine (I.hok b ob e).stay (fun c w' hc q=>(hs.2 c ?_).trans q) (fun _ q=>q) fun _ _ q=>q
  rintro rfl
  rcases hc with rfl | hc
  ·rw [I.free] at e;cases e
  ·rw [I.free] at hc;cases hc
end
noncomputable def drops (i:Nat) (D:Ends):Ends:={ nx:=fun σ H=>D.nx (σ.set i none) H,rt:=D.rt,bk:=fun σ H=>D.bk (σ.set i none) H,ct:=fun σ H=>D.ct (σ.set i none) H }
theorem Un.track {fs:List Addr} {H0:Hp} {g:Heap} (u:Un fs [] H0 H g h) (ue:H e=none) (ge:g.get? e=none):Un fs [] H0 (upd H e o) g h where
 keep:=u.keep
 slot:=u.slot
 free:=fun b ob q n hx=>by rw [aA (fun z=>by rw [z,ge] at q;cases q)];exact u.free b ob q n hx
 there:=u.there
 tups:=fun b xs q=>by rw [aA (aq (u.tups b xs q) ue)];exact u.tups b xs q
 vP:=fun b ob v q=>by rw [aA (aq (u.vP b ob v q) ue)];exact u.vP b ob v q
 zZ:=fun b ps q=>by
  obtain ⟨m,r⟩:=u.zZ b ps q
  exact ⟨m,by rw [aA (aq r ue)];exact r⟩
section
variable {n:Str} {np hpos pos:Pos} {b₀:Stmt} {suite:List Stmt} {th:TS}
theorem acU {D:Ends} {ev:Value} {s1:Shared} (hst:X.stack=X.env::X.outer) (hfr:X.env.frame=some X.env.locals) (hg:Gl X x) (hm:X.mg x=some (.ref B)) (hN:X.N.Nodup) (hi:X.N[i]? = some n)
  (hl:X.env.scope.names.lookup n=some .local) (hs:∀ e,PSs (X.marked e) (b₀::suite) th) (hdb:(x == ("__debug__" : Str))=false)
  (hx:XP X pins σ (fun cls _ H1=>∃ C,cls = .ref C/\Catch X.K C B/\∀ e,H1 e=none->th (drops i D) (σ.set i (some (.ref e))) (upd H1 e (U4 e C))) ev s1) :
  wpAny (model X.prog X.w) X.A (noteFrame ev X.env) (fun _ s2=>wpAny (model X.prog X.w) X.A (setFlight ev none) (fun _ s3=>wpAny (model X.prog X.w) X.A (handleBy ev X.env [.ExceptHandler (some (.Name x np)) (some n) (b₀::suite) hpos]) (SP X pins D) X.xe s3) X.xe s2) X.xe s1:=by
 obtain ⟨s0,H0,I0,e,C,T,H',rfl,os,bare,u,hok,fly,C2,eC,cat,hth⟩:=hx
 cases eC
 have sub:∀ b∈frs (X.env::X.outer),b∈frs X.stack\/s0.heap.get? b=none:=fun b hb=>.inl (by rw [hst];exact hb)
 have fre:∀ b∈frs (X.env::X.outer),H' b=none:=fun b hb=>(I0.call' (ch:=[]) os u hok bare (by simp)).yj b (by rw [hst];exact hb)
 have acV:∀ {h:Heap},Un (frs X.stack) [] H0 H' s0.heap h->HOk X.prog X.w H' h->h.FunFrames X.base (X.env::X.outer):=fun {h} u' hok'=>by
  have:=(I0.call' (ch:=[]) (s':={ s1 with heap:=h }) os u' hok' bare (by simp)).stack
  rw [hst] at this;exact this
 have hA:X.A.frames=some (X.env::X.outer):=by rw [I0.ok.frames,hst]
 obtain ⟨a0,hfl⟩:=fly.flying (acV u hok)
 refine wpAny_looks_onW hA hfr hfl fun h2 x1 x2=>?_
 obtain ⟨u2,hok2,T2,fly2⟩:=Kv u hok (acV u hok) fre sub fly.hidden fly.ue fly.ge x1.1 x2 x1.2.2.2
 obtain ⟨a2,hh2⟩:=fly2.held (acV u2 hok2)
 refine wpAny_landsW (s:={ s1 with heap:=h2 }) hh2 fun h3 x1 x2=>?_
 obtain ⟨u3,hok3,T3,ahJ⟩:=Kv u2 hok2 (acV u2 hok2) fre sub fly2.hidden fly2.ue fly2.ge x1.1 x2 x1.2.2.2.at
 have I3:=I0.call' (ch:=[]) (s':={ s1 with heap:=h3 }) os u3 hok3 bare (by simp)
 refine wpAny_handleBy_cons (codeAny_handlers_test (Bh (X:=X.marked e) (I3.marked e) hg hm ?_ hdb)) (by intro q;cases q)
 obtain ⟨oe,_,_,_,_,q1,q2,_⟩:=ahJ.tr
 refine acT I3.kIn cat q1 q2.1 ?_
 show f9 _ _ (.handlers (.ref e) [.ExceptHandler none (some n) (b₀::suite) hpos] X.env) _ _
 refine codeAny_handlers_suite_as ?_
 obtain ⟨a3,hfl3⟩:=ahJ.flying (acV u3 hok3)
 refine lands_againW (s:={ s1 with heap:=h3 }) hfl3 fun h4 x1 x2=>?_
 obtain ⟨u4,hok4,T4,ahK⟩:=Kv u3 hok3 (acV u3 hok3) fre sub ahJ.hidden ahJ.ue ahJ.ge x1.1 x2 x1.2.2.2.at
 obtain ⟨oe4,_,_,_,_,q41,q42,_⟩:=ahK.tr
 have hok5:HOk X.prog X.w (upd H' e (U4 e C)) h4:=hok4.Gw (fun _ _ q=>q) ahK.ue
  ⟨⟨oe4,q41,q42.1⟩,⟨oe4,q41⟩,fun k1 k2 ⟨o,r1,r2⟩ r=>⟨o,r o r1,r2⟩⟩
 have I5:=I0.call' (ch:=[]) (s':={ s1 with heap:=h4 }) os (u4.track (o:=U4 e C) ahK.ue ahK.ge) hok5 bare (by simp)
 refine JM (X:=X.marked e) (v:=.ref e) (I5.marked e) hN hi (.inl hl) rfl (fun s6 I6=>?_) (.inr hl)
 refine eO (hs e pins s6 _ _ (drops i D) I6 (hth e ahK.ue)) (fun f s7 q=>?_) fun _ _ z=>z.elim
 cases f with
 | next =>
  obtain ⟨σ7,H7,I7,q7⟩:=q
  exact HX (I7.unmarked I0.ok.hd) hN hi hl fun s8 I8=>⟨_,H7,I8,q7⟩
 | brk =>
  obtain ⟨σ7,H7,I7,q7⟩:=q
  exact HX (I7.unmarked I0.ok.hd) hN hi hl fun s8 I8=>⟨_,H7,I8,q7⟩
 | cont =>
  obtain ⟨σ7,H7,I7,q7⟩:=q
  exact HX (I7.unmarked I0.ok.hd) hN hi hl fun s8 I8=>⟨_,H7,I8,q7⟩
 | ret u =>
  obtain ⟨v,σ7,H7,I7,r7,q7⟩:=q
  exact HX (I7.unmarked I0.ok.hd) hN hi hl fun s8 I8=>⟨v,_,H7,I8,r7,q7⟩
noncomputable def tTry (K:aW) (tc:TX) (nx:V->St->St) (i:Nat) (B:Addr) (th:TS):TS:=fun D σ H=>tc σ H (fun v H1=>D.nx (nx v σ) H1)
 fun cls _ H1=>∃ C,cls = .ref C/\Catch K C B/\∀ e,H1 e=none->th (drops i D) (σ.set i (some (.ref e))) (upd H1 e (U4 e C))
theorem aaZ {ce:Expr} {epos:Pos} {tc:TX} (hst:X.stack=X.env::X.outer) (hfr:X.env.frame=some X.env.locals) (hg:Gl X x) (hm:X.mg x=some (.ref B)) (hN:X.N.Nodup) (hi:X.N[i]? = some n)
  (hl:X.env.scope.names.lookup n=some .local) (hc:PX X ce tc) (hs:∀ e,PSs (X.marked e) (b₀::suite) th) (hsw:Eb ce none epos.line X.env=pure false:=by rfl) (hdb:(x == ("__debug__" : Str))=false:=by decide) :
  PS X (.Try [.Expr ce epos] [.ExceptHandler (some (.Name x np)) (some n) (b₀::suite) hpos] [] [] pos) (tTry X.K tc (fun _ σ=>σ) i B th):=by
 intro pins s σ H D I h
 have key:wpAny (model X.prog X.w) X.A (exec (.Expr ce epos) X.env) (fun f s1=>f = .next/\∃ H1,Inv X pins σ H1 s1/\D.nx σ H1) (XP X pins σ _) s :=
  ad5 (eO (hc pins s σ H _ _ I h) (fun v s1 ⟨x,H1,I1,r1,q1⟩=>⟨rfl,H1,I1,q1⟩) fun _ _ z=>z) I.quiet hsw
 refine wpAny_Try_except (Wq (eO key (fun f s1 ⟨ef,H1,I1,q1⟩=>?_) fun ev s1 hx=>?_))
 ·subst ef
  exact DQ (DQ ⟨σ,H1,I1,q1⟩)
 ·exact acU hst hfr hg hm hN hi hl hs hdb hx
end
end L2
namespace L2
open PySem PySem.Spec PyProof.Rows PySem.Builtin PySem.Builtin.ObjectAttr PySem.Builtin.Getset_descriptor
structure Kz (K:aW) (C:Addr):Prop where
 ga:gK K (.ref C) "__getattribute__" = some (some (.builtin "BaseException.__getattribute__"))
 gt:gK K (.ref C) "__getattr__" = some none
 cl:gK K (.ref C) "__class__" = some (some (.builtin "object.__class__"))
 sp:Ef K (.builtin "object.__class__") "__get__" = some (some (.builtin "getset_descriptor.__get__"))
 tk:Jl K (.builtin "object.__class__")=some true
 ex:jA K C (.type "BaseException")=some true
 ob:jA K C (.type "object")=some true
 se:jA K C (.ref C)=some true
 ty:wD K (.ref C)=some (.type "type")
section
variable {K:aW} {e C:Addr} {o:Obj} {prog:aP} {w:World} {A:bH} {E:Value->Shared->Prop} {s:Shared}
theorem tM {M:Model} {h:Heap} (he:h.get? e=some o) (hc:o.cls = .ref C):Ei M h (typeOf (.ref e)) (.ref C):=hc ▸ (afR he).andThen .now
theorem Fx {M:Model} {h:Heap} (kin:K.In h) (X:Kz K C):Ei M h (afz (.ref e) (.ref C) "__class__") (.bind (.builtin "getset_descriptor.__get__") (.builtin "object.__class__")):=by
 have l1:=PK (M:=M) kin X.cl
 have l2:=PySem.W.looks_specialIn (M:=M) kin X.sp
 have l3:=PySem.W.looks_takesIn (M:=M) kin X.tk
 intro A Q E s k q
 obtain ⟨hh,g,d,t,os⟩:=s
 have L1:=l1.keeps k
 have L2:=l2.keeps k
 have L3:=l3.keeps k
 clear l1 l2 l3
 unfold afz alL dZ.ObjectAttr.dataDescriptor?
 repeat lk
 exact q
theorem Mf {tp:Value} {R:lU->Shared->Prop} (kin:K.In s.heap) (X:Kz K C) (he:s.heap.get? e=some o) (hc:o.cls = .ref C) (h:R (.ok (.ret (.ref C))) s) :
  f9 (model prog w) A (.call (.builtin "getset_descriptor.__get__") ⟨[.builtin "object.__class__",.ref e,tp],[]⟩) R s:=by
 obtain ⟨hh,g,dr,t,os⟩:=s
 have L0:=tM (M:=model prog w) he hc
 have L1:=Xe (M:=model prog w) kin X.ob
 refine Iu afO.plain al4 ?_
 refine afO.check _ _ _ _ _ _ _ _ al3 (al5 _ _ _) ?_
 unfold dZ.«getset_descriptor.__get__» descrGet
 rw [PySem.W.dga_obj]
 refine aJ (aR ?_)
 unfold descrGetter descrCheckInstance descrNameAndClass WX
 simp only [al1]
 repeat lk
 refine ⟨afM _ tb_g%,?_⟩
 refine vq al2 ?_
 unfold dZ.«object.__class__» shownTypeOf
 repeat lk
 exact h
theorem acW {M:Model} {nameV:Value} {Q:Unit->Shared->Prop} (kin:K.In s.heap) (X:Kz K C) (he:s.heap.get? e=some o) (hc:o.cls = .ref C) (hq:Q () s) :
  wpAny M A (O6 "BaseException.__getattribute__" ⟨[.ref e,nameV],[]⟩) Q E s:=by
 obtain ⟨hh,g,dr,t,os⟩:=s
 have L0:=tM (M:=M) he hc
 have L1:=Xe (M:=M) kin X.ex
 have L2:Ei M hh (WX (.ref e) (.type "BaseException")) true:=L0.andThen L1
 have hk:WD "BaseException.__getattribute__" = some .slot:=by decide +kernel
 have hsp:splitId "BaseException.__getattribute__" = some ("BaseException","__getattribute__"):=by decide +kernel
 have ha:=F.args_bexc_ga (.ref e) nameV
 simp only [O6,hk,hsp]
 refine aJ (L2.at ?_)
 repeat (first | wp_step | lk)
 all_goals exact hq
theorem acX {tk:Tok} {Q:PySem.Fin->Shared->Prop} (kin:K.In s.heap) (X:Kz K C) (he:s.heap.get? e=some o) (hc:o.cls = .ref C) (hq:Q (.done (.ret (.ref C))) s) :
  wpAny (model prog w) A (dZ.«object.__getattribute__» ⟨[.ref e,.str "__class__" tk],[]⟩) Q E s:=by
 obtain ⟨hh,g,dr,t,os⟩:=s
 have L0:=tM (M:=model prog w) he hc
 have L1:=Fx (e:=e) (M:=model prog w) kin X
 unfold dZ.«object.__getattribute__»
 refine aJ (aR (a:=(Value.ref e,[Value.str "__class__" tk])) ?_)
 dsimp only
 refine aJ (aR (a:=("__class__" : Str)) ?_)
 refine aJ (L0.at ?_)
 refine aJ (L1.at ?_)
 dsimp only
 unfold bindTo
 refine aJ (oh (wg ?_))
 exact Mf kin X he hc (aR hq)
theorem anq {tk:Tok} {Q:Value->Shared->Prop} (kin:K.In s.heap) (X:Kz K C) (he:s.heap.get? e=some o) (hc:o.cls = .ref C) (hq:Q (.ref C) s) :
  wpAny (model prog w) A (getAttrBy (.ref e) (.str "__class__" tk) false) Q E s:=by
 obtain ⟨hh,g,dr,t,os⟩:=s
 have L0:=tM (M:=model prog w) he hc
 have L1:=PK (M:=model prog w) kin X.ga
 have L2:=PK (M:=model prog w) kin X.gt
 have hx2:(Value.builtin "BaseException.__getattribute__" == Value.builtin "object.__getattribute__")=false:=by decide +kernel
 have hb:=F.attr_ValueError.ga.bind (.ref e)
 unfold getAttrBy
 refine oh (aJ (L0.at (aJ (L1.at ?_))))
 dsimp only
 rw [hx2,Xx,if_neg gO]
 unfold getAttrByItsOwn hookBefore
 rw [if_pos (show onTheHeap (Value.ref C)=true from rfl)]
 refine aJ (L2.at ?_)
 refine aJ (DX (oh ?_))
 unfold callGetattribute
 rw [aeL,if_neg gO]
 unfold boundAndCalled
 rw [hb]
 refine aJ (aR ?_)
 refine wg (Iu F.attr_ValueError.ga.plain F.entry_bexc_ga (acW kin X he hc (acX kin X he hc ?_)))
 repeat (first | exact hq | wp_step | lk)
theorem ahL {Q:Option Value->Shared->Prop} (kin:K.In s.heap) (X:Kz K C) (he:s.heap.get? e=some o) (hc:o.cls = .ref C) (hq:Q (some (.ref C)) { s with toks:=s.toks+1 }) :
  wpAny (model prog w) A (getAttr? (.ref e) "__class__") Q E s:=by
 obtain ⟨hh,g,dr,t,os⟩:=s
 unfold getAttr? getAttrBy?
 refine aJ (wpAny_mkText (aJ (DX ?_)))
 exact anq (s:=⟨hh,g,dr,t+1,os⟩) kin X he hc (aR hq)
theorem U5 (X:Kz K C):PySem.W.KitX K (.ref e) (.ref C) (fun h=>∃ o,h.get? e=some o/\o.cls = .ref C) where
 ty:=fun _ _ _ ⟨_,he,hc⟩=>tM he hc
 it:=fun _ _ kin _=>(aeu kin (Ky (K:=K) (C:=C) (B:=C) (r:=true) X.se X.ob X.ty)).2.1
 ne:=fun h tp dd its n sl kin htp=>by
  refine Bool.eq_false_iff.mpr fun q=>?_
  have e1:C=tp:=amN (beq_iff_eq.mp q)
  subst e1
  have k:=X.ob
  unfold jA Xi at k
  split at k
  ·rename_i ho
   have z:=(kin _ _ ho).symm.trans htp
   cases z
  ·cases k
 ca:=fun kin ⟨_,he,hc⟩ k=>ahL kin X he hc k
end
section
variable {X:Cx}
noncomputable def rIsiX (K:aW):List V->Hp->VK->Prop:=fun xs H Q=>∃ e C c cv b,xs=[.ref e,c]/\H e=some (U4 e C)/\Kz K C/\RelV c cv/\(∀ u,RelV c u->u=cv)/\oZ K (.ref C) cv=some b/\Q (.bl b) H
theorem Nv:gP X (.builtin "isinstance") (rIsiX X.K):=by
 walk_at "f"
 obtain ⟨e,C,c,cv,b,rfl,he,xc,rc,inj,k,q⟩:=h
 obtain ⟨u,w',rfl,ru,rw'⟩:=vals2 r
 obtain rfl:=inj w' rw'
 obtain rfl:u=Value.ref e:=ru
 obtain ⟨p,_,_⟩:=(show dG X.prog X.w H s.heap e (U4 e C) from I.hok e _ he)
 exact vA (U5 xc) I.kIn p k (fun z=>nomatch z) fun tk=>⟨.bl b,H,I.tok tk,rfl,q⟩
noncomputable def anr (K:aW):List V->Hp->VK->Prop:=fun xs H Q=>∃ (e C tp:Addr) (cs:List Addr) (b:Bool),xs=[.ref e,.ref tp]/\H e=some (U4 e C)/\Kz K C/\H tp=some (.tup (cs.map V.ref))/\Jo K (.ref C) (cs.map Value.ref)=some b/\Q (.bl b) H
theorem Nx:∀ {cs:List Addr} {us:List Value},Vals (cs.map V.ref) us->us=cs.map Value.ref
 | [],_,.nil=>rfl
 | _::_,_,.cons r t=>by rw [dW,<- Nx t];cases r;rfl
theorem KC:gP X (.builtin "isinstance") (anr X.K):=by
 walk_at "f"
 obtain ⟨e,C,tp,cs,b,rfl,he,xc,ht,k,q⟩:=h
 obtain ⟨u,w',rfl,ru,rw'⟩:=vals2 r
 obtain rfl:u=Value.ref e:=ru
 obtain rfl:w'=Value.ref tp:=rw'
 obtain ⟨p,_,_⟩:=(show dG X.prog X.w H s.heap e (U4 e C) from I.hok e _ he)
 obtain ⟨_,its,rv,⟨oc,od,odt,osl⟩,ho,hcl,n,hd⟩:=(show dG X.prog X.w H s.heap tp (.tup (cs.map V.ref)) from I.hok tp _ ht)
 have hi:=Nx rv
 subst hi
 simp only at hcl hd
 subst hcl hd
 exact PySem.W.kia_tup (U5 xc) I.kIn p ho k (fun z=>nomatch z) fun tk=>⟨.bl b,H,I.tok tk,rfl,q⟩
end
end L2
namespace L2
open PySem PySem.Spec PyProof.Rows
section
variable {X:Cx} {k:Addr} {o e:Expr} {es:List Expr} {to:TE} {t:TA} {name:Str} {apos cpos:Pos} {T id:String} {r:V->List V->Hp->VK->Prop}
end
inductive Alike (K:aW) (H:Hp):Nat->V->V->Prop where
 | flat {n:Nat} {x:V} (h:wW x=true):Alike K H n x x
 | lst {n:Nat} {a b:Addr} {xs ys:List V} (ha:SqL K H a xs) (hb:SqL K H b ys) (hl:xs.length=ys.length) (h:∀ (i:Nat) (x y:V),xs[i]? = some x->ys[i]? = some y->Alike K H n x y):Alike K H (n+1) (.ref a) (.ref b)
 | tup {n:Nat} {a b:Addr} {xs ys:List V} (ha:SqT K H a xs) (hb:SqT K H b ys) (hl:xs.length=ys.length) (h:∀ (i:Nat) (x y:V),xs[i]? = some x->ys[i]? = some y->Alike K H n x y):Alike K H (n+1) (.ref a) (.ref b)
theorem U6 {x:V} (h:wW x=true):eqV x x=true:=by
 cases x with
 | non=>rfl
 | bl b=>show (b == b)=true;simp
 | int i=>show (i == i)=true;simp
 | str z=>show (z == z)=true;simp
 | byt _=>cases h
 | flt _=>cases h
 | ref _=>cases h
 | ty _=>cases h
section
variable {X:Cx} {pins:List (Addr × Obj)} {σ:St} {H:Hp} {s:Shared}
theorem all_true (n:Nat):((oU n).all fun _=>true)=true:=by simp
theorem qU {K:aW} {A:bH} {n:Nat} {xs ys:List V} {us vs:List Value} (ru:Vals xs us) (rv:Vals ys vs)
  (h:∀ (i:Nat) (x y:V),xs[i]? = some x->ys[i]? = some y->Alike K H n x y) (ih:∀ (x y:V) (u v:Value),Alike K H n x y->RelV x u->RelV y v->JF A s u v true) :
  ∀ j (h1:j<us.toArray.size) (h2:j<vs.toArray.size),JF A s us.toArray[j] vs.toArray[j] true:=fun j h1 h2=>by
 have e1:j<us.length:=by simpa using h1
 have e2:j<vs.length:=by simpa using h2
 have l1:j<xs.length:=by rw [ru.length];exact e1
 have l2:j<ys.length:=by rw [rv.length];exact e2
 have g1:xs[j]? = some xs[j]:=fY l1
 have g2:ys[j]? = some ys[j]:=fY l2
 obtain ⟨u,k1,r1⟩:=ru.get g1
 obtain ⟨v,k2,r2⟩:=rv.get g2
 have m1:us.toArray[j]=u:=by
  rw [fY e1] at k1
  simpa using k1
 have m2:vs.toArray[j]=v:=by
  rw [fY e2] at k2
  simpa using k2
 rw [m1,m2]
 exact ih _ _ _ _ (h j _ _ g1 g2) r1 r2
theorem U7 (I:Inv X pins σ H s):∀ (n:Nat) (A:bH) (x y:V) (u v:Value),A.units+n<cLine->Alike X.K H n x y->RelV x u->RelV y v->JF A s u v true
 | 0,A,x,y,u,v,hu,h,ru,rv=>by
  cases h with
  | flat f=>have:=Y6 (A:=A) (s:=s) ru rv f f;rw [U6 f] at this;exact this
 | n+1,A,x,y,u,v,hu,h,ru,rv=>by
  have ih:=fun (x y:V) (u v:Value) (k:Alike X.K H n x y) (r1:RelV x u) (r2:RelV y v)=>U7 I n A.in1 x y u v (by show A.units+1+n<cLine;lia) k r1 r2
  cases h with
  | flat f=>have:=Y6 (A:=A) (s:=s) ru rv f f;rw [U6 f] at this;exact this
  | @lst _ a b xs ys ha hb hl k =>
   obtain rfl:u=Value.ref a:=ru
   obtain rfl:v=Value.ref b:=rv
   by_cases e:a=b
   ·subst e;exact Ym _
   ·obtain ⟨us,r1,p1,_⟩:=I.list ha
    obtain ⟨vs,r2,p2,_⟩:=I.list hb
    have:=amI (A:=A) p1.isList p2.isList (by rw [cW,cW,<- r1.length,<- r2.length,hl]) tb_g% (qU r1 r2 k ih)
    rw [all_true] at this
    exact afC e this
  | @tup _ a b xs ys ha hb hl k =>
   obtain rfl:u=Value.ref a:=ru
   obtain rfl:v=Value.ref b:=rv
   by_cases e:a=b
   ·subst e;exact Ym _
   ·obtain ⟨us,r1,p1,_⟩:=I.tuple ha
    obtain ⟨vs,r2,p2,_⟩:=I.tuple hb
    have hs:us.toArray.size=vs.toArray.size:=by rw [cW,cW,<- r1.length,<- r2.length,hl]
    have:=amH (A:=A) p1 p2 tb_g% (qU r1 r2 k ih)
    rw [all_true,hs] at this
    exact afC e (by simpa using this)
noncomputable def ant (K:aW) (b:Bool):R2:=fun x y H Q=>∃ n p q,x = .ref p/\y = .ref q/\n<=40/\Alike K H n x y/\Q (.bl b) H
theorem anu (hu:X.A.units+64<cLine):OpR X (kO .NotEq) (ant X.K false):=by
 walk_at "g"
 obtain ⟨n,p,q,rfl,rfl,hn,k,w⟩:=h
 obtain rfl:v=Value.ref p:=rx
 obtain rfl:u=Value.ref q:=ry
 have ih:=fun m (hm:m+1<=40) (x y:V) (u v:Value) (k:Alike X.K H m x y) (r1:RelV x u) (r2:RelV y v)=>U7 I m X.A.in1 x y u v (by show X.A.units+1+m<cLine;lia) k r1 r2
 have fin:EP X pins σ Q (.bool false) s:=⟨.bl false,H,I,rfl,w⟩
 cases k with
 | flat f=>cases f
 | @lst m a b xs ys ha hb hl k =>
  obtain ⟨us,r1,p1,_⟩:=I.list ha
  obtain ⟨vs,r2,p2,_⟩:=I.list hb
  have:=amE (A:=X.A) p1.isList p2.isList (by rw [cW,cW,<- r1.length,<- r2.length,hl]) tb_g% (qU r1 r2 k (ih m tb_g%))
  rw [all_true] at this
  exact this X.prog X.w X.xe _ fin
 | @tup m a b xs ys ha hb hl k =>
  obtain ⟨us,r1,p1,_⟩:=I.tuple ha
  obtain ⟨vs,r2,p2,_⟩:=I.tuple hb
  have hs:us.toArray.size=vs.toArray.size:=by rw [cW,cW,<- r1.length,<- r2.length,hl]
  have:=amD (A:=X.A) p1 p2 tb_g% (qU r1 r2 k (ih m tb_g%))
  rw [all_true,hs] at this
  exact (show SeqAt.RcNeAt X.A s (.ref p) (.ref q) false by simpa using this) X.prog X.w X.xe _ fin
end
section
variable {X:Cx}
end
theorem Gx {K:aW} {a:Addr} {xs:List V} {caps:List Nat} {tt:TT} {te:TE} {σ:St} {H:Hp} {D:Addr} {Q:VK} (Pv:Nat->List V->Hp->Prop) (h0:Pv 0 [] (upd H D (.lst [])))
  (hl:∀ i ys H,i<=xs.length->Pv i ys H->SqL K H a xs/\H D=some (.lst ys)/\ys.length<sizeLine)
  (hs:∀ i ys H x,xs[i]? = some x->Pv i ys H->tt (mj σ (some x) caps) H fun b H2=>if b=true then te (mj σ (some x) caps) H2 fun y H3=>H3 D=some (.lst ys)/\Pv (i+1) (ys++[y]) (upd H3 D (.lst (ys++[y]))) else H2 D=some (.lst ys)/\Pv (i+1) ys H2) (hd:∀ ys H,Pv xs.length ys H->Q (.ref D) H)
  (monoT:∀ σ H (R R':Bool->Hp->Prop),(∀ b H,R b H->R' b H)->tt σ H R->tt σ H R')
  (mono:∀ σ H (Q Q':VK),(∀ y H,Q y H->Q' y H)->te σ H Q->te σ H Q') :
  Bs (Itl K a) caps tt te σ D Q H:=by
 refine ⟨fun i m ys H=>m=xs.length-i/\i<=xs.length/\Pv i ys H,⟨xs.length,by simp,dF _,h0⟩,?_⟩
 rintro i m ys H ⟨rfl,hi,p⟩
 obtain ⟨sq,q,z⟩:=hl i ys H hi p
 refine ⟨q,?_⟩
 by_cases hlt:i<xs.length
 ·refine .inr ⟨⟨xs,xs[i],sq,by simp [hlt]⟩,z,fun x H' y=>?_⟩
  obtain ⟨e,y⟩:=y
  subst e
  refine monoT _ _ _ _ (fun b H2 hb=>?_) (hs i ys _ x (y xs sq) p)
  cases b with
  | true =>
   rw [if_pos rfl] at hb ⊢
   exact mono _ _ _ _ (fun y H3 ⟨a,b⟩=>⟨a,xs.length-(i+1),by lia,rfl,hlt,b⟩) hb
  | false =>
   rw [if_neg (by decide)] at hb ⊢
   exact ⟨hb.1,xs.length-(i+1),by lia,rfl,hlt,hb.2⟩
 ·have e:i=xs.length:=by lia
  subst e
  exact .inl ⟨⟨xs,sq,bh _⟩,hd ys H p⟩
noncomputable def oJ (te:TE):Prop:=∀ σ H (Q Q':VK),(∀ y H,Q y H->Q' y H)->te σ H Q->te σ H Q'
theorem yx {r:R2} {ta tb:TE} (hr:∀ x y H (Q Q':VK),(∀ y H,Q y H->Q' y H)->r x y H Q->r x y H Q') (ma:oJ ta) (mb:oJ tb):oJ (tOp r ta tb):=fun σ H Q Q' hq h =>
 ma σ H _ _ (fun x H1 h1=>mb σ H1 _ _ (fun y H2 h2=>hr x y H2 Q Q' hq h2) h1) h
theorem HY {K:aW} {ta tb:TE} (ma:oJ ta) (mb:oJ tb):oJ (tOp (Rh K) ta tb):=yx (fun x y H Q Q' hq h2=>by
 rcases h2 with ⟨a1,a2,a3,a4,a5,a6,a7,a8,q⟩ | ⟨a1,a2,a3,a4,a5,a6,a7,a8,q⟩ | ⟨a1,a2,a3,a4,q⟩
 ·exact .inl ⟨a1,a2,a3,a4,a5,a6,a7,a8,hq _ _ q⟩
 ·exact .inr (.inl ⟨a1,a2,a3,a4,a5,a6,a7,a8,hq _ _ q⟩)
 ·exact .inr (.inr ⟨a1,a2,a3,a4,hq _ _ q⟩)) ma mb
theorem jj {f:Int->Int->V} {ta tb:TE} (ma:oJ ta) (mb:oJ tb):oJ (tOp (rI0 f) ta tb):=yx (fun x y H Q Q' hq h2=>by
 obtain ⟨a1,a2,a3,a4,q⟩:=h2
 exact ⟨a1,a2,a3,a4,hq _ _ q⟩) ma mb
theorem yC {C:Int->Int->Prop} {f:Int->Int->V} {ta tb:TE} (ma:oJ ta) (mb:oJ tb):oJ (tOp (rI C f) ta tb):=yx (fun x y H Q Q' hq h2=>by
 obtain ⟨a1,a2,a3,a4,a5,q⟩:=h2
 exact ⟨a1,a2,a3,a4,a5,hq _ _ q⟩) ma mb
theorem bU (i:Nat):oJ (tVar i):=fun σ H Q Q' hq ⟨v,e,q⟩=>⟨v,e,hq _ _ q⟩
theorem mC (v:V):oJ (tC v):=fun σ H Q Q' hq q=>hq _ _ q
noncomputable def Ny (ta:TA):Prop:=∀ σ H (Q Q':List V->Hp->Prop),(∀ xs H,Q xs H->Q' xs H)->ta σ H Q->ta σ H Q'
theorem KD:Ny tNil:=fun σ H Q Q' hq q=>hq _ _ q
theorem tO {ta:TE} {tr:TA} (ma:oJ ta) (mr:Ny tr):Ny (T8 ta tr):=fun σ H Q Q' hq h=>ma σ H _ _ (fun x H1 h1=>mr σ H1 _ _ (fun xs H2 h2=>hq _ _ h2) h1) h
theorem ahM {ta:TA} (ma:Ny ta):oJ (tTup ta):=fun σ H Q Q' hq h=>ma σ H _ _ (fun xs H1 h1=>⟨h1.1,fun p hp=>hq _ _ (h1.2 p hp)⟩) h
section
variable {X:Cx} {tg:Expr}
end
section
variable {X:Cx} {l:Expr} {td:TE} {p cpos apos pos:Pos}
end
noncomputable def MonoT (tt:TT):Prop:=∀ σ H (R R':Bool->Hp->Prop),(∀ b H,R b H->R' b H)->tt σ H R->tt σ H R'
theorem fj {te:TE} (m:oJ te):MonoT (agJ te):=fun σ H R R' hr h=>m σ H _ _ (fun y H1 h1=>by
 obtain ⟨b,e,r⟩:=h1
 exact ⟨b,e,hr _ _ r⟩) h
theorem aa0 {ta tb:TE} (ma:oJ ta) (mb:oJ tb):oJ (tOp rEq ta tb):=yx (fun x y H Q Q' hq h=>⟨h.1,hq _ _ h.2⟩) ma mb
theorem ZJ {K:aW} (i j:Nat):∀ x σ H (R R':St->Hp->Prop),(∀ σ H,R σ H->R' σ H)->gTup K 2 (JT (vB i) (JT (vB j) gNil)) x σ H R->gTup K 2 (JT (vB i) (JT (vB j) gNil)) x σ H R':=fun x σ H R R' hr h=>by
 obtain ⟨a,xs,e,sq,hl,v,r,e1,v2,r2,e2,e3,q⟩:=h
 exact ⟨a,xs,e,sq,hl,v,r,e1,v2,r2,e2,e3,hr _ _ q⟩
section
variable {X:Cx}
end
theorem ajz {r:List V->Hp->VK->Prop} {ta:TA} (hr:∀ vs H (Q Q':VK),(∀ y H,Q y H->Q' y H)->r vs H Q->r vs H Q') (ma:Ny ta):oJ (tCB r ta):=fun σ H Q Q' hq h=>ma σ H _ _ (fun vs H1 h1=>hr vs H1 Q Q' hq h1) h
theorem U8 {K:aW} {ta:TA} (ma:Ny ta):oJ (tCB (aaK K) ta):=ajz (fun vs H Q Q' hq h=>by
 rcases h with ⟨x,n,e,l,q⟩ | ⟨a,kvs,e,r,q⟩
 ·exact .inl ⟨x,n,e,l,hq _ _ q⟩
 ·exact .inr ⟨a,kvs,e,r,hq _ _ q⟩) ma
theorem KH {K:aW} {ta:TE} {f:Str} (ma:oJ ta):oJ (agN K ta f):=fun σ H Q Q' hq h=>ma σ H _ _ (fun x H1 h1=>by
 obtain ⟨a,C,dx,fs,v,e,h2,c,n,l,q⟩:=h1
 exact ⟨a,C,dx,fs,v,e,h2,c,n,l,hq _ _ q⟩) h
section
variable {X:Cx}
end
theorem int_at {ns:List Int} {i:Nat} {y:V} (h:(ns.map V.int)[i]? = some y):∃ z,ns[i]? = some z/\y=V.int z:=by
 rw [gZ] at h
 cases e:ns[i]? with
 | none=>rw [e] at h;cases h
 | some z=>rw [e] at h;exact ⟨z,rfl,(bW h).symm⟩
theorem four {a b c d v:Int} (h:v∈[a,b,c,d]):v=a\/v=b\/v=c\/v=d:=by simpa using h
theorem ahN (f:Str) (v:V):bV f v []=[(f,v)]:=rfl
theorem ajA (f:Str) (v:V) (r:List (Str × V)) (u:V):bV f v ((f,u)::r)=(f,v)::r:=by
 unfold bV
 rw [if_pos rfl]
theorem ajB {f g:Str} (h:¬ g=f) (v:V) (r:List (Str × V)) (u:V):bV f v ((g,u)::r)=(g,u)::bV f v r:=by
 rw [bV,if_neg h]
theorem cH {f m:Str} {v:V} {r:List (Str × V)} (h:¬ m=f):((f,v)::r).lookup m=r.lookup m:=by
 rw [Wc]
 rw [beq_eq_false_iff_ne.mpr h]
theorem U9 {a:Addr}:decide (V.ref a=V.non)=false:=decide_eq_false (by intro z;cases z)
theorem Va:decide (V.non=V.non)=true:=decide_eq_true rfl
theorem gR {p a:Addr} {H H':Hp} (b:But p H H') (h:H' a=none) (n:a≠p):H a=none:=by
 cases e:H a with
 | none=>rfl
 | some o=>rw [b a o e n] at h;cases h
theorem Nz {t u:TT} (mt:∀ σ H (R R':Bool->Hp->Prop),(∀ b H,R b H->R' b H)->t σ H R->t σ H R') (mu:∀ σ H (R R':Bool->Hp->Prop),(∀ b H,R b H->R' b H)->u σ H R->u σ H R') :
  ∀ σ H (R R':Bool->Hp->Prop),(∀ b H,R b H->R' b H)->tAnd t u σ H R->tAnd t u σ H R':=fun σ H R R' hr h=>mt σ H _ _ (fun b H1 hb=>by
 cases b with
 | true=>rw [if_pos rfl] at hb ⊢; exact mu σ H1 _ _ hr hb
 | false=>rw [if_neg (by decide)] at hb ⊢; exact hr _ _ hb) h
section
variable {X:Cx}
end
end L2
namespace Dec
noncomputable abbrev dg (n:Nat):List Char:=Nat.toDigits 10 n
theorem NP {n:Nat} (h:n<10):dg n=[Xn n]:=Nat.toDigits_of_lt_base h
theorem aa1 {n:Nat} (h:10<=n):dg n=dg (n / 10)++dg (n % 10):=by
 have:=Nat.toDigits_append_toDigits (b:=10) (n:=n / 10) (d:=n % 10) (by decide) tb_g% tb_g%
 rw [show 10*(n / 10)+n % 10=n by lia] at this
 exact this.symm
theorem ZL (n:Nat):(dg (n % 10)).length=1:=by rw [NP tb_g%];rfl
noncomputable def pad (k m:Nat):List Char:=vZ (k-(dg m).length) '0'++dg m
theorem Fy:∀ (k:Nat) {m:Nat},1<=k->m<10 ^ k->(dg m).length<=k
 | 0,_,h,_=>by lia
 | k+1,m,_,h=>by
  rcases ig m 10 with l | l
  ·rw [NP l];exact Nat.succ_le_succ (dF _)
  ·rw [aa1 l,cV,ZL]
   have hk:1<=k:=by
    rcases Js k with rfl | z
    ·rw [uy,aeE] at h;lia
    ·exact z
   have:=Fy k hk (m:=m / 10) (by rw [kW] at h;lia)
   lia
theorem ahO {k m:Nat} (hk:1<=k) (h:m<10 ^ (k+1)):pad (k+1) m=pad k (m / 10)++dg (m % 10):=by
 unfold pad
 rcases ig m 10 with l | l
 ·rw [show m / 10=0 by lia,show m % 10=m by lia,NP l,NP (show 0<10 by decide)]
  show vZ (k+1-1) '0'++[Xn m]=vZ (k-1) '0'++['0']++[Xn m]
  rw [show k+1-1=(k-1)+1 by lia,List.replicate_succ']
 ·have:=Fy k hk (m:=m / 10) (by rw [kW] at h;lia)
  rw [aa1 l,cV,ZL,<- jx]
  rw [show k+1-((dg (m / 10)).length+1)=k-(dg (m / 10)).length by lia]
theorem Vb {n:Nat} (hn:0<n):∀ (k:Nat) {m:Nat},1<=k->m<10 ^ k->dg (n*10 ^ k+m)=dg n++pad k m
 | 0,_,h,_=>by lia
 | k+1,m,_,h=>by
  have e:(n*10 ^ (k+1)+m) / 10=n*10 ^ k+m / 10:=by rw [kW,<- o8];lia
  have e2:(n*10 ^ (k+1)+m) % 10=m % 10:=by rw [kW,<- o8];lia
  have big:10<=n*10 ^ (k+1)+m:=by
   have:=aeB hn (yR (show 0<10 by decide) (show 1<=k+1 by lia))
   lia
  rw [aa1 big,e,e2]
  rcases Js k with rfl | z
  ·rw [zQ,Xo] at *
   have hm:m<10:=by simpa using h
   rw [show m / 10=0 by lia,Jw,show m % 10=m by lia]
   unfold pad
   rw [NP hm];rfl
  ·rw [Vb hn k z (by rw [kW] at h;lia),ahO z h,jx]
end Dec
namespace Dec
open PySem
noncomputable def tx (cs:List Char):Str:=⟨(cs.map afW).toArray⟩
theorem Fz (cs:List Char):(tx cs).length=cs.length:=by
 show ((cs.map afW).toArray).size=_
 rw [cW,aZ]
theorem aa2 (n:Nat):(Qh n).toList=dg n:=by
 unfold Qh
 exact String.toList_ofList
theorem BJ (n:Nat):bG (toString (n:Int))=tx (dg n):=by
 rw [aeH,show toString (n:Int)=Qh n from rfl,aa2];rfl
theorem RD {n:Nat} (h:0<n):bG (toString (-(n:Int)))=tx ('-'::dg n):=by
 obtain ⟨m,rfl⟩:∃ m,n=m+1:=⟨n-1,by lia⟩
 rw [aeH,show toString (-((m+1:Nat):Int)) = "-" ++ Qh (m+1) from rfl,String.toList_append,aa2];rfl
theorem ahP {n:Nat} {c:Char} (h:c∈dg n):48<=c.toNat/\c.toNat<=57:=by
 have:=Nat.isDigit_of_mem_toDigits (by decide) (by decide) h
 simp [Char.isDigit] at this
 exact ⟨this.1,this.2⟩
theorem dg_ne (n:Nat):dg n≠[]:=by
 rcases ig n 10 with l | l
 ·rw [NP l];exact vp _ _
 ·rw [aa1 l]
  intro e
  have:=congrArg lQ e
  rw [cV,ZL] at this
  simp at this
theorem ahQ {k m:Nat} (hk:1<=k) (h:m<10 ^ k):Qz (tx (dg m)) k=tx (pad k m):=by
 have hl:=Fy k hk h
 unfold Qz pad
 rw [Fz]
 by_cases e:(k:Int)<=(dg m).length
 ·rw [if_pos e,show k-(dg m).length=0 by lia];rfl
 ·rw [if_neg e]
  unfold zfilled
  obtain ⟨c,cs,ec⟩:=VJ (dg_ne m)
  have hc:=ahP (n:=m) (c:=c) (by rw [ec];exact eN)
  have e0:(tx (dg m)).cps[0]? = some c.toNat:=by rw [ec];rfl
  rw [e0]
  have:(match some c.toNat with | some 43=>true | some 45=>true | _=>false)=false:=by
   split
   ·rename_i z;have:=bW z;lia
   ·rename_i z;have:=bW z;lia
   ·rfl
  split
  ·rename_i z;have:=bW z;lia
  ·rename_i z;have:=bW z;lia
  ·unfold alK tx
   rw [zT]
   apply congrArg Str.mk
   apply Qs.mp
   simp
theorem NQ:∀ (ys:List Str) (acc:Array Nat),ys.foldl (fun acc p=>acc++(⟨#[]⟩:Str).cps++p.cps) acc=acc++(ys.flatMap fun y=>y.cps.toList).toArray
 | [],acc=>by simp
 | y::ys,acc=>by
  rw [OD,NQ ys,zq]
  apply Qs.mp
  simp
theorem join_none (css:List (List Char)):iu ⟨#[]⟩ (css.map tx)=tx css.flatten:=by
 show QF ⟨#[]⟩ (css.map tx)=_
 unfold QF
 cases css with
 | nil=>rfl
 | cons c cs =>
  rw [dW]
  show (⟨(cs.map tx).foldl (fun acc p=>acc++(⟨#[]⟩:Str).cps++p.cps) (tx c).cps⟩:Str)=_
  rw [NQ]
  apply congrArg Str.mk
  apply Qs.mp
  unfold tx
  simp only [List.flatMap,n8,Qq,List.flatten_cons]
  rw [cC,List.map_flatten];rfl
end Dec
namespace L2
open PySem PySem.Spec PyProof.Rows
section
variable {X:Cx}
theorem RJ:∀ {ys:List Str} {its:List Value},Vals (ys.map V.str) its->StrsAre its ys
 | [],_,h=>by cases h;exact .nil
 | y::ys,_,h=>by
  cases h with
  | cons r1 r2=>obtain ⟨t,rfl⟩:=r1;exact .cons _ _ (RJ r2)
noncomputable def rJoin (K:aW):V->List V->Hp->VK->Prop:=fun x vs H Q=>∃ (sep:Str) (a:Addr) (ys:List Str),x = .str sep/\vs=[.ref a]/\SqL K H a (ys.map V.str)/\sep.length<=16/\(ys.map (·.length)).sum+ys.length<=1048576/\Q (.str (iu sep ys)) H
theorem RK:MtR X "str.join" (rJoin X.K):=by
 intro pins s σ H x vs v us Q I rx rv h
 obtain ⟨sep,a,ys,rfl,rfl,hs,h16,hw,q⟩:=h
 obtain ⟨t,rfl⟩:=(show ∃ t,v=Value.str sep t from rx)
 obtain ⟨u,rfl,ru⟩:=vals1 rv
 cases ru
 obtain ⟨its,r,p,hz⟩:=I.list hs
 exact join_listW p.isList (RJ r) h16 hw fun t' k=>⟨.str _,H,I.tok k,⟨t',rfl⟩,q⟩
noncomputable def anv:V->List V->Hp->VK->Prop:=fun x vs H Q=>∃ (z:Str) (i:Int),x = .str z/\vs=[.int i]/\PadOk i=true/\Q (.str (Qz z i)) H
theorem ahR:MtR X "str.zfill" anv:=by
 intro pins s σ H x vs v us Q I rx rv h
 obtain ⟨z,i,rfl,rfl,hp,q⟩:=h
 obtain ⟨t,rfl⟩:=(show ∃ t,v=Value.str z t from rx)
 obtain ⟨u,rfl,ru⟩:=vals1 rv
 obtain ⟨k,rfl⟩:=ru
 exact amM hp fun t' k=>⟨.str _,H,I.tok k,⟨t',rfl⟩,q⟩
theorem acY:gP X (.builtin "abs") (fun xs H Q=>∃ i,xs=[.int i]/\Q (.int (if i<0 then -i else i)) H):=by
 walk_at "f"
 obtain ⟨i,rfl,q⟩:=h
 obtain ⟨u,rfl,t,rfl⟩:=vals1 r
 exact call_abs_int fun u k=>⟨.int _,H,I.tok k,⟨u,rfl⟩,q⟩
noncomputable def akF (_ j:Int):Prop:=0<j/\j<2 ^ 200
theorem ahS:OpR X (oX .FloorDiv) (rI akF fun i j=>.int (i / j)) :=
 opI (C:=akF) (g:=fun i j=>i / j) fun i j t u s Q E hc h=>by
  obtain ⟨h0,h1⟩:=hc
  have hl:j.natAbs.log2<9000:=by
   have h3:j.natAbs≠0:=by lia
   have h2:j.natAbs<2 ^ 200:=by lia
   have:=(aeF h3).mpr h2
   lia
  refine afo tb_g% ?_ (.inl (PyProof.noPylong_of_log2 hl))
  rw [XC i tb_g%];exact h
end
section
variable {prog:aP} {w:World} {A:bH} {E:Value->Shared->Prop} {s:Shared} {r l:Addr}
theorem Vc {Q:List Value->Shared->Prop} {items:Array Value} (hh:A.handled=none) (hr:s.heap.IsRevIter r l ((items.size:Int)-1)) (hl:s.heap.IsList l items) (hrl:l≠r) (hz:items.size<=sizeLine)
  (q:∀ h' tk acc,(∀ b o,b≠r->s.heap.get? b=some o->h'.get? b=some o)->Jh (Behind items) acc items.size->Q acc.toList { s with heap:=h',toks:=tk }):wpAny (model prog w) A (Jg (.ref r)) Q E s:=by
 obtain ⟨o1,g1,_⟩:=id hr
 obtain ⟨o2,g2,_⟩:=id hl
 unfold Jg
 refine aJ (Ws (vq PySem.F.entry_proto_collect ?_));rw [yS PySem.F.plain_proto_collect _]
 show wpAny _ A.in1 (Jf [] >>= fun l=>again (.builtin "list.__iadd__" ⟨[l,.ref r],[]⟩)) _ _ s;refine aJ (Ax ?_)
 refine aR ⟨oW aeQ _,vq PySem.F.entry_list_iadd ?_⟩;rw [yS aeQ _]
 have hS:(s.heap.push { cls:=.type "list",data:=.seq #[] }).get? s.heap.objs.size=some { cls:=.type "list",data:=.seq #[] }:=eU _ rfl
 show wpAny _ A.in1 (Bb (.ref s.heap.objs.size) (.ref r) (.ref s.heap.objs.size)) _ _ { s with heap:=s.heap.push { cls:=.type "list",data:=.seq #[] } }
 refine U0 (R:=fun res s'=>match res with
  | Except.ok (Flow.ret v)=>wpAny (model prog w) A (match v with
   | .ref a=>load a >>= fun o=>match o.data with
    | .seq xs _=>pure xs.toList
    | _=>IW "internal:collect"
   | _=>IW "internal:collect") Q E s'
  | Except.ok _=>False
  | Except.error e=>E e s') (s:={ s with heap:=s.heap.push { cls:=.type "list",data:=.seq #[] } }) hh (hr.at fun o e=>dX _ e) (hl.at fun o e=>dX _ e) hrl _ (o9 (bR g1)) (o9 (bR g2)) _ 0 hS hz fun h' tk acc d hk hS2 hacc=>?_
 exact aJ (WQ hS2 (aR (q h' tk acc (fun b o n e=>hk b o (cM (bR e)) n (dX _ e)) hacc)))
theorem ahT {x:Str} {t:Tok} {Q:Value->Shared->Prop} {items:Array Value} {zs:List Str} (hh:A.handled=none) (hr:s.heap.IsRevIter r l ((items.size:Int)-1)) (hl:s.heap.IsList l items) (hrl:l≠r) (hz:items.size<=sizeLine)
  (hs:∀ acc,Jh (Behind items) acc items.size->StrsAre acc.toList zs) (h16:x.length<=16) (hw:(zs.map (·.length)).sum+zs.length<=1048576)
  (q:∀ h' t' k,(∀ b o,b≠r->s.heap.get? b=some o->h'.get? b=some o)->Q (.str (iu x zs) t') { s with heap:=h',toks:=k }) :
  wpAny (model prog w) A (call (.builtin "str.join") [.str x t,.ref r]) Q E s:=by
 apply wg;apply Iu Ej.plain PySem.F.entry_str_join
 refine Ej.check _ _ _ _ _ _ _ _ (WR _ _ _) (PySem.F.args_str_join_2 _ _) ?_
 rw [join_tree_other];refine aJ (IV (T := "list_reverseiterator") hr.typeIs ?_)
 show wpAny _ A.in1 ((wA (.ref r)).tryCatch _ >>= fun it=>Jg it >>= fun its=>joinTail x its) _ _ s
 refine aJ (DW (O4 hr ?_))
 refine aJ (Vc (A:=A.in1) hh hr hl hrl hz fun h' tk acc hk hacc=>?_)
 obtain ⟨ps,e1,e2⟩:=strsAre_values (hs acc hacc)
 subst e2
 rw [e1]
 have ok:=joinOk_of_weight hw h16
 unfold JoinOk at ok;rw [aeK] at ok
 have g:Gives (joinTail x (strValues ps)) (joinMade x ps):=by
  cases ps with
  | nil=>exact Wt x [] ok
  | cons a1 r1 =>
   cases r1 with
   | nil=>exact Wt x [a1] ok
   | cons a2 r2=>exact Wt x (a1::a2::r2) ok
 exact g prog w A (wants Q E) _ (post_join ps ⟨joinFit_length ok,fun t' k=>q h' t' k hk⟩)
end
section
variable {X:Cx} {o l:Expr} {to:TE} {p' apos pos' cpos:Pos}
noncomputable def ahU (K:aW) (to:TE) (ta:TA):TE:=fun σ H Q=>to σ H fun x H1=>∃ sep:Str,x = .str sep/\ta σ H1 fun vs H2=>∃ (a:Addr) (ys:List Str),vs=[.ref a]/\SqL K H2 a (ys.map V.str)/\sep.length<=16/\(ys.map (·.length)).sum+ys.length<=1048576/\Q (.str (iu sep ys.reverse)) H2
theorem ZM {ta:TA} (hm1:X.mg "reversed" = none) (ho:PE X o to) (ha:PA X [l] ta) (hc:X.calm=true) (hg1:Gl X "reversed" := by rfl)
  (hbase:v9 o "join" X.env (eval o X.env)=eval o X.env:=by rfl)
  (hfew:((gh cpos (cO [.Call (.Name "reversed" p') [l] [] pos'] X.env)).all (fun x=>!x.1) && (zH cpos (zF [] X.env)).all (fun x=>x.1.isSome)
   && decide ([Expr.Call (.Name "reversed" p') [l] [] pos'].length+([]:List ur).length+(if ([]:List ur).isEmpty then 0 else 1)<30))=true:=by rfl)
  (hline:(apos.endLine == cpos.line)=true:=by rfl) (he:cO [.Call (.Name "reversed" p') [l] [] pos'] X.env=[(false,eval (.Call (.Name "reversed" p') [l] [] pos') X.env)]:=by rfl) (hs:cO [l] X.env=[(false,eval l X.env)]:=by rfl) :
  PE X (.Call (.Attribute o "join" apos) [.Call (.Name "reversed" p') [l] [] pos'] [] cpos) (ahU X.K to ta):=by
 walk_at "e"
 refine adU hbase hfew hline rfl (thn (ho pins s σ H _ I h) fun v s1 ⟨x,H1,I1,rx,q1⟩=>?_)
 obtain ⟨sep,rfl,q1⟩:=q1
 obtain ⟨t,rfl⟩:=(show ∃ t,v=Value.str sep t from rx)
 refine ⟨"str","str.join",JB,Ej,Ql,WR _ _ _,(fun _ e=>nomatch e),?_⟩
 rw [he]
 refine Yk rfl (QB (zX (Call_ (nG I1 hg1 hm1 Yd (Gm (thn (ha pos' pins s1 σ H1 _ I1 q1) fun us s2 ⟨vs,H2,I2,r2,q2⟩=>?_) hs rfl)))))
 obtain ⟨a,ys,e,hq,h16,hw,q⟩:=q2
 subst e
 obtain ⟨u,rfl,ru⟩:=vals1 r2
 cases ru
 obtain ⟨its,rv,pl,hz⟩:=I2.list hq
 have hlen:=rv.length
 refine Wk pl.isList (Er ?_)
 show wpAny _ _ (call (.builtin "str.join") [.str sep t,.ref s2.heap.objs.size]) _ _ _
 have hla:a≠s2.heap.objs.size:=by
  obtain ⟨o,g,_⟩:=pl.isList
  exact cM (bR g)
 refine ahT (items:=its.toArray) (zs:=ys.reverse) (I2.ok.hd hc) ⟨_,eU _ rfl,rfl,rfl⟩ (pl.isList.at fun o e=>dX _ e) hla (by rw [cW];lia) (fun acc hacc=>?_) h16 (by rw [uh,adK,yO];exact hw) fun h' t' k hk=>?_
 ·refine RJ ?_
  rw [uh]
  refine RB (by rw [qx,hacc.1,cW,yO];lia) fun j x u hx hu=>?_
  have hj:j<(ys.map V.str).length:=by
   have:=(gH.mp hx).1
   rwa [yO] at this
  rw [V2 hj] at hx
  have hb:Behind its.toArray j u:=hacc.2 j u (by rw [<- qw];exact hu)
  unfold Behind at hb
  rw [cW,<- hlen] at hb
  obtain ⟨v,hv,rvv⟩:=rv.get hx
  have:u=v:=bW (hb.symm.trans (by simpa using hv))
  rw [this];exact rvv
 ·exact ⟨.str _,H2,I2.kept (t':=k) fun b o e=>hk b o (cM (bR e)) (dX _ e),⟨t',rfl⟩,q⟩
end
section
variable {X:Cx}
noncomputable def ahV (K:aW):V->List V->Hp->VK->Prop:=fun x vs H Q=>∃ l b xs zs,x = .ref l/\vs=[.ref b]/\H l=some (.lst xs)/\SqT K H b zs/\xs.length+zs.length<=sizeLine/\Q .non (upd H l (.lst (xs++zs)))
theorem ZP:MtM X "list.extend" (ahV X.K):=by
 intro pins s σ H x vs v us Q I rx rv h
 obtain ⟨l,b,xs,zs,rfl,rfl,hH,hB,hz,q⟩:=h
 cases rx
 obtain ⟨u,rfl,ru⟩:=rv.one
 cases ru
 obtain ⟨z,its,n,r,hl,e⟩:=I.GZ hH
 obtain ⟨its2,r2,⟨o2,g2,c2,n2,d2⟩,z2⟩:=I.tuple hB
 have hl2:=r2.length
 have h1:its.toArray.size+its2.toArray.size<=sizeLine:=by rw [cW,cW];lia
 refine yP F.slot_list_extend ⟨_,e,rfl⟩ F.entry_list_extend ?_ (F.args_list_extend_2 _ _)
 show wpAny _ _ (Bb (.ref l) (.ref b) .none) _ _ s
 unfold Bb XR
 refine aJ (IV (T := "tuple") ⟨o2,g2,c2⟩ ?_)
 rw [if_pos (by rw [show (Value.type "tuple" == Value.type "tuple")=true by decide,Bool.or_true])]
 refine aJ (aJ (v8 g2 d2 (aR ?_)))
 refine aJ (aJ (v8 e rfl (aR ?_)))
 rw [if_neg (by rw [Uc h1,Xx];exact gO)]
 refine aJ (listUpdate_at e rfl ?_ (by rw [cW];lia) (by rw [XM];lia))
 refine aR ⟨_,rfl,?_⟩
 refine ⟨.non,_,I.lset (its':=its++its2) hH e (by simp) (r.append r2) ?_,rfl,q⟩
 rw [cV];lia
end
end L2
set_option Elab.async false
set_option maxRecDepth 100000
set_option maxHeartbeats 4000000
namespace My
open PySem L2 MG
set_option genInjectivity false in
set_option genSizeOf false in
structure Ad where
 cX:Addr
 iR:Addr
 iD:Addr
 iG:Addr
 uD:Addr
 fZ:Addr
 iT:Addr
 iz:Addr
 ju:Addr
 zY:Addr
 Ew:Addr
 Ey:Addr
 Ez:Addr
 f'0:Addr
 BK:FuncData
 f'1:Addr
 yX:FuncData
 f'2:Addr
 aa3:FuncData
 f'3:Addr
 uP:FuncData
 f'4:Addr
 pI:FuncData
 f'5:Addr
 FJ:FuncData
 f'6:Addr
 KJ:FuncData
 f'7:Addr
 uQ:FuncData
 f'8:Addr
 xH:FuncData
 f'9:Addr
 Vd:FuncData
 SQ:Addr
 sE:FuncData
 Yt:Addr
 nH:FuncData
 Yu:Addr
 uR:FuncData
 Yv:Addr
 sO:FuncData
 abB:Addr
 Ve:FuncData
 abC:Addr
 ahW:FuncData
 SX:Addr
 nJ:FuncData
 abD:Addr
 KN:FuncData
 Yw:Addr
 lE:FuncData
 Yx:Addr
 pJ:FuncData
 S5:Addr
 nM:FuncData
 abE:Addr
 Vf:FuncData
 abF:Addr
 NT:FuncData
 Yy:Addr
 pK:FuncData
 Yz:Addr
 pL:FuncData
 abG:Addr
 KQ:FuncData
 S6:Addr
 pO:FuncData
 YB:Addr
 sS:FuncData
 YC:Addr
 pP:FuncData
 YD:Addr
 pQ:FuncData
 YF:Addr
 nO:FuncData
 YG:Addr
 nP:FuncData
 S7:Addr
 nQ:FuncData
 abH:Addr
 qW:FuncData
 abI:Addr
 NZ:FuncData
 abJ:Addr
 xJ:FuncData
 abK:Addr
 KR:FuncData
 abL:Addr
 tQ:FuncData
 abM:Addr
 qX:FuncData
 abN:Addr
 BL:FuncData
 abO:Addr
 Vg:FuncData
 abP:Addr
 N5:FuncData
 abQ:Addr
 akG:FuncData
 abR:Addr
 xK:FuncData
 abS:Addr
 yZ:FuncData
 abT:Addr
 tR:FuncData
 abU:Addr
 N6:FuncData
 abV:Addr
 aa4:FuncData
 abW:Addr
 Gy:FuncData
 abX:Addr
 Vh:FuncData
 abY:Addr
 Vi:FuncData
 abZ:Addr
 BP:FuncData
 S8:Addr
 uU:FuncData
 YH:Addr
 uV:FuncData
 YJ:Addr
 sU:FuncData
 YK:Addr
 xM:FuncData
 YL:Addr
 nR:FuncData
 ab0:Addr
 aa5:FuncData
 ab1:Addr
 aa6:FuncData
 ab2:Addr
 KY:FuncData
 ab3:Addr
 aa7:FuncData
 af6:Addr
 akH:FuncData
 QJ:Addr
 tU:FuncData
variable {room n i k L l h S j:Nat} {ns C ks D:List Int} {A:Ad} {H H' H1 H0 G:Hp} {reach span v th many last t:Int} {as:List Addr} {fd:FuncData} {ls:RG.Ls} {p c dx e ds d:Addr} {m q p0 p1:Str} {a b:Option Int} {st:Stmt} {ts:List Str} {α:Type} {σ:St}
structure Tx (K:aW) (mg:Str->Option Value) (A:Ad):Prop where
 bT:Cls K A.cX
 RL:mg "Rungs" = some (.ref A.cX)
 ahX:Mk K A.cX A.f'7
 BR:cA K A.cX "room"
 za:cA K A.cX "total"
 BW:cA K A.cX "over"
 BX:cA K A.cX "under"
 qY:cA K A.cX "turns"
 BZ:cA K A.cX "least"
 Ca:cA K A.cX "most"
 zc:cA K A.cX "rungs"
 dM:Cls K A.iR
 Vj:mg "Window" = some (.ref A.iR)
 akI:Mk K A.iR A.SQ
 Cd:cA K A.iR "room"
 Ce:cA K A.iR "reach"
 oE:cA K A.iR "clock"
 Cg:cA K A.iR "boxes"
 eV:Cls K A.iD
 KZ:mg "Distinct" = some (.ref A.iD)
 akJ:Mk K A.iD A.SX
 Ci:cA K A.iD "room"
 Cj:cA K A.iD "arrivals"
 vH:cA K A.iD "level"
 Ck:cA K A.iD "kept"
 fK:Cls K A.iG
 Ak:mg "Frequent" = some (.ref A.iG)
 ahY:Mk K A.iG A.S5
 Cm:cA K A.iG "room"
 Cp:cA K A.iG "total"
 Cq:cA K A.iG "lost"
 Cr:cA K A.iG "counts"
 mX:Cls K A.uD
 N7:mg "Balance" = some (.ref A.uD)
 akK:Mk K A.uD A.S6
 Gz:cA K A.uD "span"
 xO:cA K A.uD "sums"
 bF:Cls K A.fZ
 pR:mg "Keepsake" = some (.ref A.fZ)
 aa8:Mk K A.fZ A.S7
 Cu:cA K A.fZ "room"
 Cv:cA K A.fZ "reach"
 pU:cA K A.fZ "span"
 xP:cA K A.fZ "came"
 xQ:cA K A.fZ "went"
 xR:cA K A.fZ "up"
 xT:cA K A.fZ "down"
 sV:cA K A.fZ "window"
 sW:cA K A.fZ "seen"
 uW:cA K A.fZ "balance"
 fL:Cls K A.iT
 ajC:mg "Shelf" = some (.ref A.iT)
 mk'69:Mk K A.iT A.S8
 K1:cA K A.iT "room"
 K4:cA K A.iT "reach"
 K5:cA K A.iT "span"
 pW:cA K A.iT "many"
 Al:cA K A.iT "blocks"
 Vk:∀ (H:Hp) (a dx:Addr) (fs:List (Str × V)),H a=some (.ins A.fZ dx fs)->Aa K H (.ref a) (.ref A.fZ)
 mY:mg "Unlike" = some (.ref A.iz)
 uX:mg "OutOfReach" = some (.ref A.ju)
 GC:mg "KeepError" = some (.ref A.zY)
 N8:mg "BadText" = some (.ref A.Ew)
 Oa:mg "TooFine" = some (.ref A.Ey)
 Cw:mg "TooManyOff" = some (.ref A.Ez)
 iZ:zP K A.iz [.type "ValueError",.type "Exception",.type "BaseException",.type "object"] "ValueError.__new__" = true
 jh:zP K A.ju [.type "ValueError",.type "Exception",.type "BaseException",.type "object"] "ValueError.__new__" = true
 yN:Catch K A.iz A.zY
 tV:Catch K A.ju A.zY
 Ob:Kz K A.iz
 zf:Kz K A.ju
 cQ:oZ K (.ref A.ju) (.ref A.ju)=some true
 fO:oZ K (.ref A.iz) (.ref A.iz)=some true
 iI:Jo K (.ref A.ju) [(.ref A.Ew),(.ref A.Ey),(.ref A.Ez),(.ref A.iz)]=some false
 oM:Jo K (.ref A.iz) [(.ref A.Ew),(.ref A.Ey),(.ref A.Ez),(.ref A.ju)]=some false
 F'0:Fg K mg "with_thing" s'0 A.f'0 A.BK Q26
 F'1:Fg K mg "left_behind" s'1 A.f'1 A.yX ["things"]
 F'2:Fg K mg "risen" s'2 A.f'2 A.aa3 Q16
 F'3:Fun K "turn" "Rungs.turn" s'3 A.f'3 A.uP
 b'3:Binds K A.uP Q17 []
 RM:Meth K A.cX "turn" A.f'3
 F'4:Fun K "settle" "Rungs.settle" s'4 A.f'4 A.pI
 b'4:Binds K A.pI ["self","lists"] []
 xU:Meth K A.cX "settle" A.f'4
 F'5:Fg K mg "greater" s'5 A.f'5 A.FJ Q1
 F'6:Fg K mg "lesser" s'6 A.f'6 A.KJ Q1
 F'7:Fun K "__init__" "Rungs.__init__" s'7 A.f'7 A.uQ
 b'7:Binds K A.uQ Q3 []
 ajD:Meth K A.cX "__init__" A.f'7
 F'8:Fun K "add" "Rungs.add" s'8 A.f'8 A.xH
 b'8:Binds K A.xH Q2 []
 GD:Meth K A.cX "add" A.f'8
 F'9:Fg K mg "joined" s'9 A.f'9 A.Vd ["boxes","room"]
 F'10:Fun K "__init__" "Window.__init__" s'10 A.SQ A.sE
 b'10:Binds K A.sE Q18 []
 aiS:Meth K A.iR "__init__" A.SQ
 F'11:Fun K "settle" "Window.settle" s'11 A.Yt A.nH
 b'11:Binds K A.nH ["self","boxes"] []
 nT:Meth K A.iR "settle" A.Yt
 F'12:Fun K "add" "Window.add" s'12 A.Yu A.uR
 b'12:Binds K A.uR Q19 []
 RN:Meth K A.iR "add" A.Yu
 F'13:Fun K "idle" "Window.idle" s'13 A.Yv A.sO
 b'13:Binds K A.sO Q12 []
 zj:Meth K A.iR "idle" A.Yv
 F'14:Fg K mg "spread" s'14 A.abB A.Ve Q10
 F'15:Fg K mg "mark" s'15 A.abC A.ahW Q10
 F'16:Fun K "__init__" "Distinct.__init__" s'16 A.SX A.nJ
 b'16:Binds K A.nJ Q3 []
 adi:Meth K A.iD "__init__" A.SX
 F'17:Fg K mg "of_marks" s'17 A.abD A.KN Q20
 F'18:Fun K "settle" "Distinct.settle" s'18 A.Yw A.lE
 b'18:Binds K A.lE ["self","things"] []
 qZ:Meth K A.iD "settle" A.Yw
 F'19:Fun K "add" "Distinct.add" s'19 A.Yx A.pJ
 b'19:Binds K A.pJ Q21 []
 K6:Meth K A.iD "add" A.Yx
 F'20:Fun K "__init__" "Frequent.__init__" s'20 A.S5 A.nM
 b'20:Binds K A.nM Q3 []
 adk:Meth K A.iG "__init__" A.S5
 F'21:Fg K mg "cut_of" s'21 A.abE A.Vf ["counts","room"]
 F'22:Fg K mg "lowered" s'22 A.abF A.NT ["counts","cut"]
 F'23:Fun K "fit" "Frequent.fit" s'23 A.Yy A.pK
 b'23:Binds K A.pK ["self","grown"] []
 xV:Meth K A.iG "fit" A.Yy
 F'24:Fun K "add" "Frequent.add" s'24 A.Yz A.pL
 b'24:Binds K A.pL Q2 []
 xW:Meth K A.iG "add" A.Yz
 F'25:Fg K mg "with_row" s'25 A.abG A.KQ Q27
 F'26:Fun K "__init__" "Balance.__init__" s'26 A.S6 A.pO
 b'26:Binds K A.pO Q22 []
 ahZ:Meth K A.uD "__init__" A.S6
 F'27:Fun K "put" "Balance.put" s'27 A.YB A.sS
 b'27:Binds K A.sS Q2 []
 Mh:Meth K A.uD "put" A.YB
 F'28:Fun K "take" "Balance.take" s'28 A.YC A.pP
 b'28:Binds K A.pP Q2 []
 K7:Meth K A.uD "take" A.YC
 F'29:Fun K "put" "Keepsake.put" s'29 A.YD A.pQ
 b'29:Binds K A.pQ Q2 []
 pY:Meth K A.fZ "put" A.YD
 F'30:Fun K "take" "Keepsake.take" s'30 A.YF A.nO
 b'30:Binds K A.nO Q2 []
 vI:Meth K A.fZ "take" A.YF
 F'31:Fun K "idle" "Keepsake.idle" s'31 A.YG A.nP
 b'31:Binds K A.nP Q12 []
 vJ:Meth K A.fZ "idle" A.YG
 F'32:Fun K "__init__" "Keepsake.__init__" s'32 A.S7 A.nQ
 b'32:Binds K A.nQ Q13 []
 adl:Meth K A.fZ "__init__" A.S7
 F'33:Fg K mg "poured_frequent" s'33 A.abH A.qW Q1
 F'34:Fg K mg "list_at" s'34 A.abI A.NZ Q23
 F'35:Fg K mg "poured_rungs" s'35 A.abJ A.xJ Q1
 F'36:Fg K mg "followed" s'36 A.abK A.KR Q1
 F'37:Fg K mg "poured_balance" s'37 A.abL A.tQ Q1
 F'38:Fg K mg "poured_distinct" s'38 A.abM A.qX Q1
 F'39:Fg K mg "empty_like" s'39 A.abN A.BL Q14
 acZ:Fg K mg "poured" s'40 A.abO A.Vg Q1
 F'41:Fg K mg "figures" s'41 A.abP A.N5 ["number"]
 ZQ:Fg K mg "row" s'42 A.abQ A.akG ["numbers"]
 F'43:Fg K mg "window_words" s'43 A.abR A.xK Q11
 F'44:Fg K mg "rungs_words" s'44 A.abS A.yZ Q11
 F'45:Fg K mg "frequent_words" s'45 A.abT A.tR Q11
 ah0:Fg K mg "written" s'46 A.abU A.N6 Q14
 F'47:Fg K mg "cover" s'47 A.abV A.aa4 ["first","last"]
 F'48:Fg K mg "_law_cell_at" s'48 A.abW A.Gy Q24
 xX:Fg K mg "_law_some" s'49 A.abX A.Vh Q28
 ac0:Fg K mg "_law_many" s'50 A.abY A.Vi ["_law_script"]
 F'51:Fg K mg "_law_keepsake" s'51 A.abZ A.BP Q29
 F'52:Fun K "__init__" "Shelf.__init__" s'52 A.S8 A.uU
 b'52:Binds K A.uU Q13 []
 ajE:Meth K A.iT "__init__" A.S8
 F'53:Fun K "bare" "Shelf.bare" s'53 A.YH A.uV
 b'53:Binds K A.uV ["self"] []
 Cy:Meth K A.iT "bare" A.YH
 F'54:Fun K "stack" "Shelf.stack" s'54 A.YJ A.sU
 b'54:Binds K A.sU ["self","piece"] []
 Mi:Meth K A.iT "stack" A.YJ
 F'55:Fun K "lay" "Shelf.lay" s'55 A.YK A.xM
 b'55:Binds K A.xM Q25 []
 GF:Meth K A.iT "lay" A.YK
 F'56:Fun K "between" "Shelf.between" s'56 A.YL A.nR
 b'56:Binds K A.nR Q30 []
 jX:Meth K A.iT "between" A.YL
 F'57:Fg K mg "_law_due" s'57 A.ab0 A.aa5 Q31
 ah1:Fg K mg "_law_out" s'58 A.ab1 A.aa6 Q32
 F'59:Fg K mg "_law_unlike" s'59 A.ab2 A.KY Q33
 F'60:Fg K mg "_law_run" s'60 A.ab3 A.aa7 Q34
 F'61:Fg K mg "law" s'61 A.af6 A.akH ["_law_script"]
 ah2:Fg K mg "_law_block" s'62 A.QJ A.tU Q15
 n_abs:mg "abs" = none
 anw:mg "bool" = none
 ah3:mg "dict" = none
 akL:mg "int" = none
 jk:mg "isinstance" = none
 mZ:mg "len" = none
 ZR:mg "list" = none
 aa9:mg "max" = none
 akM:mg "min" = none
 RQ:mg "range" = none
 Am:mg "reversed" = none
 n_set:mg "set" = none
 pZ:mg "sorted" = none
 akN:mg "str" = none
 n_zip:mg "zip" = none
 anx:∃ u,mg "MOST" = some u/\RelV (.int 1152921504606846976) u
 Hg:∃ u,mg "MOST_HALVINGS" = some u/\RelV (.int 60) u
 ajF:∃ u,mg "PIECE" = some u/\RelV (.int 1000000000000000000000000000000) u
 Hh:∃ u,mg "PIECE_FIGURES" = some u/\RelV (.int 30) u
 ah4:∃ u,mg "SPREAD" = some u/\RelV (.int 770093176312745717) u
 aoz:oZ K (.type "int") (.type "int")=some true
 ZS:oZ K (.type "int") (.type "bool")=some false
variable {P:aP} {w:World} {K:aW} {mg:Str->Option Value} {base:Heap} {A:Ad}
local macro_rules | `(tactic| walk_at "sc") => `(tactic| exact ⟨rfl, rfl, rfl, by decide +kernel, rfl, by decide +kernel, by decide +kernel⟩)
theorem iM:aM ["lists","thing","weight","grown","place","bits"] Q26 (aG s'0):=by walk_at "sc"
theorem K8:aM ["things"] ["things"] (aG s'1):=by walk_at "sc"
theorem ah5:aM Q16 Q16 (aG s'2):=by walk_at "sc"
theorem Mj:aM Q17 Q17 (aG s'3):=by walk_at "sc"
theorem fu:aM ["self","lists","settled","place","stands_for","things"] ["self","lists"] (aG s'4):=by walk_at "sc"
theorem K9:aM ["one","other","known"] Q1 (aG s'5):=by walk_at "sc"
theorem Oc:aM ["one","other","known"] Q1 (aG s'6):=by walk_at "sc"
theorem Ml:aM Q3 Q3 (aG s'7):=by walk_at "sc"
theorem RT:aM Q2 Q2 (aG s'8):=by walk_at "sc"
theorem jm:aM ["boxes","room","done","newer","at_hand","box"] ["boxes","room"] (aG s'9):=by walk_at "sc"
theorem La:aM Q18 Q18 (aG s'10):=by walk_at "sc"
theorem mD:aM ["self","boxes","edge","within"] ["self","boxes"] (aG s'11):=by walk_at "sc"
theorem Mp:aM Q19 Q19 (aG s'12):=by walk_at "sc"
theorem Lb:aM Q12 Q12 (aG s'13):=by walk_at "sc"
theorem ac1:aM Q10 Q10 (aG s'14):=by walk_at "sc"
theorem Cz:aM ["thing","rest","halvings"] Q10 (aG s'15):=by walk_at "sc"
theorem FN:aM Q3 Q3 (aG s'16):=by walk_at "sc"
theorem Vl:aM Q20 Q20 (aG s'17):=by walk_at "sc"
theorem j9:aM ["self","things","left"] ["self","things"] (aG s'18):=by walk_at "sc"
theorem Hi:aM Q21 Q21 (aG s'19):=by walk_at "sc"
theorem FQ:aM Q3 Q3 (aG s'20):=by walk_at "sc"
theorem Od:aM ["counts","room","falling"] ["counts","room"] (aG s'21):=by walk_at "sc"
theorem uY:aM ["counts","cut","left","thing","count"] ["counts","cut"] (aG s'22):=by walk_at "sc"
theorem vK:aM ["self","grown","cut"] ["self","grown"] (aG s'23):=by walk_at "sc"
theorem vL:aM ["self","thing","weight","grown"] Q2 (aG s'24):=by walk_at "sc"
theorem m5:aM ["sums","thing","weight","grown","share","held"] Q27 (aG s'25):=by walk_at "sc"
theorem Hj:aM Q22 Q22 (aG s'26):=by walk_at "sc"
theorem Ld:aM Q2 Q2 (aG s'27):=by walk_at "sc"
theorem Hl:aM Q2 Q2 (aG s'28):=by walk_at "sc"
theorem Ho:aM Q2 Q2 (aG s'29):=by walk_at "sc"
theorem FT:aM Q2 Q2 (aG s'30):=by walk_at "sc"
theorem FW:aM Q12 Q12 (aG s'31):=by walk_at "sc"
theorem FZ:aM Q13 Q13 (aG s'32):=by walk_at "sc"
theorem fQ:aM ["one","other","poured","together","thing","count"] Q1 (aG s'33):=by walk_at "sc"
theorem ZV:aM Q23 Q23 (aG s'34):=by walk_at "sc"
theorem jY:aM ["one","other","poured","together","place"] Q1 (aG s'35):=by walk_at "sc"
theorem xY:aM ["one","other","both","behind"] Q1 (aG s'36):=by walk_at "sc"
theorem rA:aM ["one","other","poured"] Q1 (aG s'37):=by walk_at "sc"
theorem p8:aM ["one","other","poured"] Q1 (aG s'38):=by walk_at "sc"
theorem Mq:aM Q14 Q14 (aG s'39):=by walk_at "sc"
theorem Oe:aM ["one","other","both"] Q1 (aG s'40):=by walk_at "sc"
theorem uZ:aM ["number","pieces","rest"] ["number"] (aG s'41):=by walk_at "sc"
theorem anz:aM ["numbers"] ["numbers"] (aG s'42):=by walk_at "sc"
theorem nU:aM ["part","numbers","box"] Q11 (aG s'43):=by walk_at "sc"
theorem lF:aM ["part","numbers","words","things"] Q11 (aG s'44):=by walk_at "sc"
theorem lG:aM ["part","numbers","thing"] Q11 (aG s'45):=by walk_at "sc"
theorem Le:aM ["keepsake","lines"] Q14 (aG s'46):=by walk_at "sc"
theorem m6:aM ["first","last","blocks","at","level","size"] ["first","last"] (aG s'47):=by walk_at "sc"
theorem RV:aM Q24 Q24 (aG s'48):=by walk_at "sc"
theorem Ga:aM ["_law_script","_law_k","_law_salt","_law_many_here","_law_cell","_law_mixed"] Q28 (aG s'49):=by walk_at "sc"
theorem ac2:aM ["_law_script"] ["_law_script"] (aG s'50):=by walk_at "sc"
theorem eG:aM ["_law_script","_law_k","_law_kind","_law_made","_law_rows","_law_j","_law_thing","_law_weight","_law_how"] Q29 (aG s'51):=by walk_at "sc"
theorem Mr:aM Q13 Q13 (aG s'52):=by walk_at "sc"
theorem Ms:aM ["self"] ["self"] (aG s'53):=by walk_at "sc"
theorem gU:aM ["self","piece","block","level","row"] ["self","piece"] (aG s'54):=by walk_at "sc"
theorem RW:aM Q25 Q25 (aG s'55):=by walk_at "sc"
theorem gY:aM ["self","first","last","told","level","at"] Q30 (aG s'56):=by walk_at "sc"
theorem lH:aM ["_law_script","_law_kind","_law_first","_law_last","_law_made","_law_at","_law_level","_law_block_here"] Q31 (aG s'57):=by walk_at "sc"
theorem CG:aM ["_law_shelf","_law_first","_law_last","_law_caught","error"] Q32 (aG s'58):=by walk_at "sc"
theorem rB:aM ["_law_shelf","_law_kind","_law_caught","error"] Q33 (aG s'59):=by walk_at "sc"
theorem CJ:aM ["_law_script","_law_k","_law_shelf","_law_kind","_law_many_here","_law_first","_law_last","_law_found"] Q34 (aG s'60):=by walk_at "sc"
theorem u9:aM ["_law_script","_law_kind","_law_shelf","_law_many_here","_law_k","_law_piece","_law_asked","_law_others"] ["_law_script"] (aG s'61):=by walk_at "sc"
theorem Ao:aM ["_law_script","_law_kind","_law_level","_law_at","_law_half"] Q15 (aG s'62):=by walk_at "sc"
noncomputable def ah6 (K:aW):Sp:=fun vs H Q _=>∃ (a:Addr) (ns:List Int),vs=[.ref a]/\SqL K H a (ns.map V.int)/\ns.length<=63/\∀ H',Q (.bl true) H'
theorem sq {t u:TS} {D:Ends} (h:∀ R:St->Hp->Prop,(∀ σ H,u D σ H->R σ H)->t { D with nx:=R } σ H):tSeq t u D σ H:=h (u D) fun _ _ z=>z
local macro_rules | `(tactic| walk_at "rec") => `(tactic| repeat first | rw [ahN] | rw [ajA] | (rw [ajB ?h]; (case h => decide +kernel)))
noncomputable def rg (aD bJ cD bK bL bM cF bN:V):List (Str × V):=[("room",aD),("total",bJ),("over",cD),("under",bK),("turns",bL),("least",bM),("most",cF),("rungs",bN)]
theorem yD (aD bJ cD bK bL bM cF bN:V):(rg aD bJ cD bK bL bM cF bN).lookup ("room" : Str)=some aD:=by rfl
theorem xZ (aD bJ cD bK bL bM cF bN:V):(rg aD bJ cD bK bL bM cF bN).lookup ("total" : Str)=some bJ:=by rfl
theorem Ia (aD bJ cD bK bL bM cF bN:V):(rg aD bJ cD bK bL bM cF bN).lookup ("over" : Str)=some cD:=by rfl
theorem CN (aD bJ cD bK bL bM cF bN:V):(rg aD bJ cD bK bL bM cF bN).lookup ("under" : Str)=some bK:=by rfl
theorem m7 (aD bJ cD bK bL bM cF bN:V):(rg aD bJ cD bK bL bM cF bN).lookup ("turns" : Str)=some bL:=by rfl
theorem CP (aD bJ cD bK bL bM cF bN:V):(rg aD bJ cD bK bL bM cF bN).lookup ("least" : Str)=some bM:=by rfl
theorem Ib (aD bJ cD bK bL bM cF bN:V):(rg aD bJ cD bK bL bM cF bN).lookup ("most" : Str)=some cF:=by rfl
theorem tW (aD bJ cD bK bL bM cF bN:V):(rg aD bJ cD bK bL bM cF bN).lookup ("rungs" : Str)=some bN:=by rfl
theorem anA (aD bJ cD bK bL bM cF bN:V):bV "rungs" bN (bV "most" cF (bV "least" bM (bV "turns" bL (bV "under" bK (bV "over" cD (bV "total" bJ (bV "room" aD [])))))))=rg aD bJ cD bK bL bM cF bN:=by
 unfold rg
 walk_at "rec"
theorem CQ (aD bJ cD bK bL bM cF bN y:V):bV "total" y (rg aD bJ cD bK bL bM cF bN)=rg aD y cD bK bL bM cF bN:=by
 unfold rg
 walk_at "rec"
theorem GJ (aD bJ cD bK bL bM cF bN y:V):bV "over" y (rg aD bJ cD bK bL bM cF bN)=rg aD bJ y bK bL bM cF bN:=by
 unfold rg
 walk_at "rec"
theorem CT (aD bJ cD bK bL bM cF bN y:V):bV "under" y (rg aD bJ cD bK bL bM cF bN)=rg aD bJ cD y bL bM cF bN:=by
 unfold rg
 walk_at "rec"
theorem vd (aD bJ cD bK bL bM cF bN y:V):bV "turns" y (rg aD bJ cD bK bL bM cF bN)=rg aD bJ cD bK y bM cF bN:=by
 unfold rg
 walk_at "rec"
theorem CV (aD bJ cD bK bL bM cF bN y:V):bV "least" y (rg aD bJ cD bK bL bM cF bN)=rg aD bJ cD bK bL y cF bN:=by
 unfold rg
 walk_at "rec"
theorem GP (aD bJ cD bK bL bM cF bN y:V):bV "most" y (rg aD bJ cD bK bL bM cF bN)=rg aD bJ cD bK bL bM y bN:=by
 unfold rg
 walk_at "rec"
theorem RX (aD bJ cD bK bL bM cF bN y:V):bV "rungs" y (rg aD bJ cD bK bL bM cF bN)=rg aD bJ cD bK bL bM cF y:=by
 unfold rg
 walk_at "rec"
theorem rgN {aD bJ cD bK bL bM cF bN:V} (h:m∉[("room" : Str),("total" : Str),("over" : Str),("under" : Str),("turns" : Str),("least" : Str),("most" : Str),("rungs" : Str)]):(rg aD bJ cD bK bL bM cF bN).lookup m=none:=by
 simp only [cP,iW,or_false,not_or] at h
 obtain ⟨vf,ajG,anB,ajH,ajI,ajJ,anC,ajK⟩:=h
 unfold rg
 rw [cH vf,cH ajG,cH anB,cH ajH,cH ajI,cH ajJ,cH anC,cH ajK]
 rfl
/-- None,or a whole number -/
noncomputable def oV:Option Int->V
 | none=>.non
 | some i=>.int i
/-- a list of lists -/
structure LL (H:Hp) (a:Addr) (bs:List Addr) (ls:RG.Ls):Prop where
 o:H a=some (.lst (bs.map V.ref))
 n:bs.length=ls.length
 e:∀ (i:Nat) (b:Addr) (l:List Int),bs[i]? = some b->ls[i]? = some l->H b=some (.lst (l.map V.int))
 x:a∉bs
section
variable {a:Addr} {bs:List Addr} {m:List Int}
theorem LL.same (h:LL H a bs ls) (s:Same H H'):LL H' a bs ls:=⟨s _ _ h.o,h.n,fun i b l e1 e2=>s _ _ (h.e i b l e1 e2),h.x⟩
theorem LL.at (h:LL H a bs ls) (hi:i<ls.length):∃ b l,bs[i]? = some b/\ls[i]? = some l/\H b=some (.lst (l.map V.int)):=by
 have hb:i<bs.length:=by rw [h.n];exact hi
 exact ⟨bs[i],ls[i],fY hb,fY hi,h.e i _ _ (fY hb) (fY hi)⟩
theorem LL.ix {b:Addr} (h:bs[i]? = some b):atI (bs.map V.ref) (i:Int)=some (.ref b):=yq (by rw [gZ,h];rfl)
theorem yE (h:j<n):ixN n (j:Int)=some j:=by
 unfold ixN
 rw [if_pos tb_g%,if_pos tb_g%]
 simp
theorem LL.set (h:LL H a bs ls) (hc:H c=some (.lst (m.map V.int))) (nc:c≠a):LL (upd H a (.lst ((bs.map V.ref).set i (.ref c)))) a (bs.set i c) (ls.set i m):=by
 refine ⟨by rw [ak,List.map_set],by rw [jz,jz,h.n],fun j b l e1 e2=>?_,fun z=>?_⟩
 ·by_cases ij:i=j
  ·subst ij
   rw [List.getElem?_set] at e1 e2
   rw [if_pos rfl] at e1 e2
   split at e1
   ·split at e2
    ·obtain rfl:=bW e1
     obtain rfl:=bW e2
     rw [aA nc];exact hc
    ·cases e2
   ·cases e1
  ·rw [Av ij] at e1 e2
   have nb:b≠a:=fun z=>h.x (by rw [<- z];exact List.mem_of_getElem? e1)
   rw [aA nb]
   exact h.e j b l e1 e2
 ·rcases vV z with y | y
  ·exact h.x y
  ·exact nc y.symm
theorem LL.app (h:LL H a bs ls) (hc:H c=some (.lst (m.map V.int))) (nc:c≠a):LL (upd H a (.lst (bs.map V.ref++[.ref c]))) a (bs++[c]) (ls++[m]):=by
 refine ⟨by rw [ak,cC];rfl,by rw [cV,cV,h.n];rfl,fun j b l e1 e2=>?_,fun z=>?_⟩
 ·rcases ig j bs.length with lt | ge
  ·rw [qm lt] at e1
   rw [qm (by rw [<- h.n];exact lt)] at e2
   have nb:b≠a:=fun z=>h.x (by rw [<- z];exact List.mem_of_getElem? e1)
   rw [aA nb]
   exact h.e j b l e1 e2
  ·rw [vm ge] at e1
   rw [vm (by rw [<- h.n];exact ge),<- h.n] at e2
   obtain e:j-bs.length=0:=by
    have:=(gH.mp e1).1
    have:j-bs.length<1:=this
    lia
   rw [e] at e1 e2
   obtain rfl:=bW e1
   obtain rfl:=bW e2
   rw [aA nc];exact hc
 ·rcases cR.mp z with y | y
  ·exact h.x y
  ·exact nc (dh.mp y).symm
/-- the same lists,in a new list -/
theorem LL.copy {g:Addr} (h:LL H a bs ls) (hg:H g=none):LL (upd H g (.lst (bs.map V.ref))) g bs ls:=by
 have s:Same H (upd H g (.lst (bs.map V.ref))):=Same.new hg
 refine ⟨ak,h.n,(h.same s).e,fun z=>?_⟩
 obtain ⟨i,hi,e⟩:=Ou.mp z
 obtain ⟨b,l,e1,_,e3⟩:=h.at (i:=i) (by rw [<- h.n];exact hi)
 rw [fY hi,e] at e1
 obtain rfl:=bW e1
 rw [hg] at e3;cases e3
end
noncomputable def anD (σ:St) (_:Hp):Nat:=match σ with
 | [_,_,_,_,_,some (.int n)]=>n.toNat
 | _=>0
noncomputable def ajL:Sp:=fun vs H Q _=>∃ (a:Addr) (bs:List Addr) (ls:RG.Ls) (t w:Int),vs=[.ref a,.int t,.int w]/\LL H a bs ls/\0<=w/\w<2 ^ 64/\ls.length<=800/\(∀ l∈ls,l.length<=62) /\
 ∀ (g:Addr) (bs':List Addr) (H':Hp),H g=none->LL H' g bs' (RG.gG t ls w.toNat)->Same H H'->(∀ c∈bs',c∈bs\/H c=none)->Q (.ref g) H'
theorem ok'0 (T:Tx K mg A):cB P w K mg base CX0 1 A.f'0 A.BK Q26 ajL:=by
 k_dat (T.F'0.ok,iM,s) "a"
 ·obtain ⟨a,bs,ls,t,w,rfl,_⟩:=h
  rfl
 ·obtain ⟨a,bs0,ls,t,w,rfl,hL,w0,w64,hn,h9,q⟩:=h
  have w64':w.toNat<2 ^ 64:=by lia
  refine ⟨_,(ao (psS 3 iM.nd (ji (J0 rfl) (by rfl) T.ZR afe (aj (pv 0) au)))
   (ao (psS 4 iM.nd aB)
   (ao (psS 5 iM.nd (pv 2))
   (ao (jD jB (aQ Gn (pv 5) aB (aY _)) (ao (dO (aQ lN (pv 4) (bO dJ (by rfl) T.mZ mK (aj (pv 3) au)) (aY _)) (aC (bC (jG mL sY sZ d8 (pv 3) (aj (dR au) au)))) cG)
   (ao (dO (aQ lN (aK iU (pv 5) aB) aB (aY _)) (aC (Fd (bO (lB rfl) (by rfl) T.pZ Ep (aj (aK wX (dw (ixG (cN hr)) (pv 3) (pv 4) (fun _ _=>rfl)) (dR (aj (pv 1) au))) au)) (Fb (pv 3) (pv 4) (setG (cN hr))))) cG)
   (ao (psS 4 iM.nd (aK bA (pv 4) aB))
   (aC (psS 5 iM.nd (aK Q5 (pv 5) aB)))))))
   (aC (bQ (pv 3))))))),?_⟩
  refine ⟨_,rfl,.inl ⟨a,_,rfl,.inl (.inl (.inl hL.o)),fun g hg=>?_⟩⟩
  have L0:=hL.copy hg
  have s0:Same H (upd H g (.lst (bs0.map V.ref))):=Same.new hg
  generalize upd H g (.lst (bs0.map V.ref))=H1 at L0 s0 ⊢
  refine ⟨_,rfl,?_⟩
  refine jE (fun σ G=>∃ (bs:List Addr) (ms:RG.Ls) (p k:Nat),σ=[some (.ref a),some (.int t),some (.int w),some (.ref g),some (.int (p:Int)),some (.int (k:Int))]/\LL G g bs ms/\Same H G/\p<=ms.length/\ms.length<=800/\k*2 ^ p<=w.toNat/\ms.take p++RG.gG t (ms.drop p) k=RG.gG t ls w.toNat/\(∀ l∈ms.drop p,l.length<=62)/\∀ c∈bs,c∈bs0\/H c=none) anD
   ⟨bs0,ls,0,w.toNat,by rw [zR w0];rfl,L0,s0,dF _,hn,by rw [zQ];lia,rfl,h9,fun c hc=>.inl hc⟩ ?_ ?_
  ·rintro σ G ⟨bs,ms,p,k,rfl,L,sG,hp,h8,kp,eq,b9,fr⟩
   refine ⟨_,rfl,_,_,rfl,rfl,_,rfl,fH (fun hc=>?_) (fun hc=>?_)⟩
   ·have k0:0<k:=by have:=of_decide_eq_true hc;lia
    have p64:p<=63:=by
     rcases ig p (63+1) with z | z
     ·lia
     ·have h1:=yR (show 0<2 by decide) z
      have h2:=wH (2 ^ p) k0
      lia
    refine ⟨_,rfl,_,rfl,jw (.inl (.inl L.o)) ⟨rfl,_,rfl,fH (fun he=>?_) (fun he=>?_)⟩⟩
    ·have he:p=ms.length:=by
      have:=V.int.inj (of_decide_eq_true he)
      rw [aZ,L.n] at this
      lia
     refine ⟨_,rfl,.inl ⟨rfl,_,.inl (.inl L.o)⟩,by show 0<=sizeLine;decide,fun c hc=>?_⟩
     have s1:Same G (upd G c (.lst [])):=Same.new hc
     have f1:(upd G c (.lst [])) c=some (.lst (([]:List Int).map V.int)):=ak
     generalize upd G c (.lst [])=G1 at s1 f1 ⊢
     have nc:c≠g:=aU (aq L.o hc)
     refine ⟨g,_,_,rfl,rfl,s1 _ _ L.o,bB (by rw [aZ,L.n];lia),?_⟩
     have L2:=(L.same s1).app f1 nc
     have s2:Same H (upd G1 g (.lst (bs.map V.ref++[.ref c]))):=fun b o e=>by rw [aA (aq e hg)];exact s1 _ _ (sG b o e)
     generalize upd G1 g (.lst (bs.map V.ref++[.ref c]))=GX at L2 s2 ⊢
     have lp:p<(ms++[[]]).length:=by rw [cV];show p<ms.length+1;lia
     have lp8:(ms++[[]]).length<=800:=by rw [cV];show ms.length+1<=800;lia
     have b92:∀ l∈(ms++[[]]).drop p,l.length<=62:=fun l hl=>by
      rw [he,adN] at hl
      rw [dh.mp hl];exact dF _
     have fr2:∀ x∈bs++[c],x∈bs0\/H x=none:=fun x hx=>by
      rcases cR.mp hx with z | z
      ·exact fr x z
      ·rw [dh.mp z];exact .inr (sG.free hc)
     have eq2:=(RG.Zy (t:=t) he (show k≠0 by lia)).trans eq
     obtain ⟨b,l,eb,el,hb⟩:=L2.at lp
     have hl9:l.length<=62:=b92 l (by rw [RG.gJ el];exact eN)
     have e9:∀ m,∀ l∈((ms++[[]]).set p m).drop (p+1),l.length<=62:=fun m l hl=>b92 l (by rw [RG.set_drop] at hl;rw [RG.gJ el];exact fB _ hl)
     have st:=RG.Kr (t:=t) el (show k≠0 by lia)
     have kh:k / 2*2 ^ (p+1)<=w.toNat:=by
      rw [kW,rM (2 ^ p) 2,<- o8]
      exact gM (wH _ tb_g%) kp
     have ek:((k:Int) / 2)=((k / 2:Nat):Int):=by lia
     have ep:((p:Int)+1)=((p+1:Nat):Int):=by lia
     refine ⟨_,rfl,_,_,rfl,rfl,(by show (0:Int)<2;decide),rfl,_,rfl,fH (fun hb2=>?_) (fun hb2=>?_)⟩
     ·have o2:k % 2=1:=by have:=V.int.inj (of_decide_eq_true hb2);lia
      rw [if_pos o2] at st
      refine ⟨_,rfl,_,rfl,lO (.inl (.inl L2.o)) (v:=.ref b) (LL.ix eb) ⟨_,rfl,by show 1<=sizeLine;decide,fun c1 hc1=>?_⟩⟩
      have y1:Same GX (upd GX c1 (.lst [.int t])):=Same.new hc1
      have z1:(upd GX c1 (.lst [.int t])) c1=some (.lst [.int t]):=ak
      generalize upd GX c1 (.lst [.int t])=J1 at y1 z1 ⊢
      refine ⟨b,c1,_,_,rfl,rfl,y1 _ _ hb,z1,ou (bB (by rw [aZ];show l.length+1<=1000;lia)),fun c2 hc2=>?_⟩
      rw [show l.map V.int++[V.int t]=(l++[t]).map V.int by rw [cC];rfl]
      have y2:Same J1 (upd J1 c2 (.lst ((l++[t]).map V.int))):=Same.new hc2
      have z2:(upd J1 c2 (.lst ((l++[t]).map V.int))) c2=some (.lst ((l++[t]).map V.int)):=ak
      generalize upd J1 c2 (.lst ((l++[t]).map V.int))=J2 at y2 z2 ⊢
      refine .inr ⟨c2,l++[t],rfl,.inl (.inl z2),by rw [cV];show l.length+1<64;lia,fun c3 ns hc3 pm so=>?_⟩
      obtain rfl:=RG.rZ pm so
      have y3:Same J2 (upd J2 c3 (.lst ((RG.srt (l++[t])).map V.int))):=Same.new hc3
      have z3:(upd J2 c3 (.lst ((RG.srt (l++[t])).map V.int))) c3=some (.lst ((RG.srt (l++[t])).map V.int)):=ak
      generalize upd J2 c3 (.lst ((RG.srt (l++[t])).map V.int))=J3 at y3 z3 ⊢
      have y03:=y1.trans (y2.trans y3)
      have M3:=L2.same y03
      have nc3:c3≠g:=aU (aq ((y1.trans y2) _ _ L2.o) hc3)
      refine ⟨_,rfl,_,rfl,.inl ⟨g,_,_,p,rfl,rfl,M3.o,yE (by rw [aZ,L2.n];exact lp),?_⟩⟩
      have M4:=M3.set (i:=p) z3 nc3
      have y4:Same H (upd J3 g (.lst (((bs++[c]).map V.ref).set p (.ref c3)))):=fun b o e=>by rw [aA (aq e hg)];exact y03 _ _ (s2 b o e)
      generalize upd J3 g (.lst (((bs++[c]).map V.ref).set p (.ref c3)))=J4 at M4 y4 ⊢
      refine ⟨_,rfl,_,_,rfl,rfl,_,rfl,_,_,rfl,rfl,⟨by decide,by decide⟩,?_,?_⟩
      ·exact ⟨_,_,p+1,k / 2,by rw [<- ek,<- ep];rfl,M4,y4,by rw [jz];lia,by rw [jz];lia,kh,st.trans eq2,e9 _,fun c hc=>by
        rcases vV hc with z | z
        ·exact fr2 c z
        ·rw [z];exact .inr ((s2.trans (y1.trans y2)).free hc3)⟩
      ·show ((k:Int) / 2).toNat<(k:Int).toNat
       lia
     ·have o2:¬ k % 2=1:=fun z=>hb2 (decide_eq_true (congrArg V.int tb_g%))
      rw [if_neg o2,RG.Bw el] at st
      have e9':=e9 l
      rw [RG.Bw el] at e9'
      refine ⟨_,rfl,_,_,rfl,rfl,_,rfl,_,_,rfl,rfl,⟨by decide,by decide⟩,?_,?_⟩
      ·exact ⟨(bs++[c]),(ms++[[]]),p+1,k / 2,by rw [<- ek,<- ep];rfl,L2,s2,by lia,by lia,kh,st.trans eq2,e9',fr2⟩
      ·show ((k:Int) / 2).toNat<(k:Int).toNat
       lia
    ·have he:¬ p=ms.length:=fun z=>he (decide_eq_true (congrArg V.int (by rw [aZ,L.n];lia)))
     have lp:p<ms.length:=by lia
     obtain ⟨b,l,eb,el,hb⟩:=L.at lp
     have hl9:l.length<=62:=b9 l (by rw [RG.gJ el];exact eN)
     have e9:∀ m,∀ l∈(ms.set p m).drop (p+1),l.length<=62:=fun m l hl=>b9 l (by rw [RG.set_drop] at hl;rw [RG.gJ el];exact fB _ hl)
     have st:=RG.Kr (t:=t) el (show k≠0 by lia)
     have kh:k / 2*2 ^ (p+1)<=w.toNat:=by
      rw [kW,rM (2 ^ p) 2,<- o8]
      exact gM (wH _ tb_g%) kp
     have ek:((k:Int) / 2)=((k / 2:Nat):Int):=by lia
     have ep:((p:Int)+1)=((p+1:Nat):Int):=by lia
     refine ⟨_,rfl,_,_,rfl,rfl,(by show (0:Int)<2;decide),rfl,_,rfl,fH (fun hb2=>?_) (fun hb2=>?_)⟩
     ·have o2:k % 2=1:=by have:=V.int.inj (of_decide_eq_true hb2);lia
      rw [if_pos o2] at st
      refine ⟨_,rfl,_,rfl,lO (.inl (.inl L.o)) (v:=.ref b) (LL.ix eb) ⟨_,rfl,by show 1<=sizeLine;decide,fun c1 hc1=>?_⟩⟩
      have y1:Same G (upd G c1 (.lst [.int t])):=Same.new hc1
      have z1:(upd G c1 (.lst [.int t])) c1=some (.lst [.int t]):=ak
      generalize upd G c1 (.lst [.int t])=J1 at y1 z1 ⊢
      refine ⟨b,c1,_,_,rfl,rfl,y1 _ _ hb,z1,ou (bB (by rw [aZ];show l.length+1<=1000;lia)),fun c2 hc2=>?_⟩
      rw [show l.map V.int++[V.int t]=(l++[t]).map V.int by rw [cC];rfl]
      have y2:Same J1 (upd J1 c2 (.lst ((l++[t]).map V.int))):=Same.new hc2
      have z2:(upd J1 c2 (.lst ((l++[t]).map V.int))) c2=some (.lst ((l++[t]).map V.int)):=ak
      generalize upd J1 c2 (.lst ((l++[t]).map V.int))=J2 at y2 z2 ⊢
      refine .inr ⟨c2,l++[t],rfl,.inl (.inl z2),by rw [cV];show l.length+1<64;lia,fun c3 ns hc3 pm so=>?_⟩
      obtain rfl:=RG.rZ pm so
      have y3:Same J2 (upd J2 c3 (.lst ((RG.srt (l++[t])).map V.int))):=Same.new hc3
      have z3:(upd J2 c3 (.lst ((RG.srt (l++[t])).map V.int))) c3=some (.lst ((RG.srt (l++[t])).map V.int)):=ak
      generalize upd J2 c3 (.lst ((RG.srt (l++[t])).map V.int))=J3 at y3 z3 ⊢
      have y03:=y1.trans (y2.trans y3)
      have M3:=L.same y03
      have nc3:c3≠g:=aU (aq ((y1.trans y2) _ _ L.o) hc3)
      refine ⟨_,rfl,_,rfl,.inl ⟨g,_,_,p,rfl,rfl,M3.o,yE (by rw [aZ,L.n];exact lp),?_⟩⟩
      have M4:=M3.set (i:=p) z3 nc3
      have y4:Same H (upd J3 g (.lst ((bs.map V.ref).set p (.ref c3)))):=fun b o e=>by rw [aA (aq e hg)];exact y03 _ _ (sG b o e)
      generalize upd J3 g (.lst ((bs.map V.ref).set p (.ref c3)))=J4 at M4 y4 ⊢
      refine ⟨_,rfl,_,_,rfl,rfl,_,rfl,_,_,rfl,rfl,⟨by decide,by decide⟩,?_,?_⟩
      ·exact ⟨_,_,p+1,k / 2,by rw [<- ek,<- ep];rfl,M4,y4,by rw [jz];lia,by rw [jz];lia,kh,st.trans eq,e9 _,fun c hc=>by
        rcases vV hc with z | z
        ·exact fr c z
        ·rw [z];exact .inr ((sG.trans (y1.trans y2)).free hc3)⟩
      ·show ((k:Int) / 2).toNat<(k:Int).toNat
       lia
     ·have o2:¬ k % 2=1:=fun z=>hb2 (decide_eq_true (congrArg V.int tb_g%))
      rw [if_neg o2,RG.Bw el] at st
      have e9':=e9 l
      rw [RG.Bw el] at e9'
      refine ⟨_,rfl,_,_,rfl,rfl,_,rfl,_,_,rfl,rfl,⟨by decide,by decide⟩,?_,?_⟩
      ·exact ⟨bs,ms,p+1,k / 2,by rw [<- ek,<- ep];rfl,L,sG,by lia,by lia,kh,st.trans eq,e9',fr⟩
      ·show ((k:Int) / 2).toNat<(k:Int).toNat
       lia
   ·have k0:k=0:=by have:¬ (0:Int)<k:=fun z=>hc (decide_eq_true z);lia
    subst k0
    rw [RG.iB,V0] at eq
    rw [eq] at L
    exact ⟨_,rfl,q g bs G hg L sG fr⟩
  ·exact fun σ H Q Q' hq h=>fj (jj (bU 5) (mC _)) σ H Q Q' hq h
noncomputable def anE:Sp:=fun vs H Q _=>∃ (b:Addr) (l:List Int),vs=[.ref b]/\H b=some (.lst (l.map V.int))/\∀ (c:Addr) (H':Hp),H c=none->H' c=some (.lst ((RG.lft l).map V.int))->Same H H'->Q (.ref c) H'
theorem ok'1 (T:Tx K mg A):cB P w K mg base CX0 1 A.f'1 A.yX ["things"] anE:=by
 k_dat (T.F'1.ok,K8,s) "a"
 ·obtain ⟨b,l,rfl,_⟩:=h
  rfl
 ·obtain ⟨b,l,rfl,hb,q⟩:=h
  have h2:(l.length:Int)-(l.length:Int) % 2=((l.length-l.length % 2:Nat):Int):=by lia
  refine ⟨_,(aC (bQ (agP ai7 (pv 0) (HB (aK uF (bO dJ (by rfl) T.mZ mK (aj (pv 0) au)) (aK iU (bO dJ (by rfl) T.mZ mK (aj (pv 0) au)) aB))) ai4))),?_⟩
  refine ⟨_,rfl,_,rfl,jw (.inl (.inl hb)) ⟨_,rfl,jw (.inl (.inl hb)) ⟨_,_,rfl,rfl,(by show (0:Int)<2;decide),_,_,rfl,rfl,_,rfl,b,_,rfl,.inl (.inl hb),fun c hc=>?_⟩⟩⟩
  rw [aZ,h2]
  have e:acp (l.map V.int) (some ((l.length-l.length % 2:Nat):Int)) none=(RG.lft l).map V.int:=by
   rw [RG.Uv,Wh]
   unfold acp HT.sIx
   simp only [aZ]
   rw [if_neg tb_g%]
   rw [qp]
   ·congr 1
    simp
   ·rw [Wa,aZ]
    simp
  rw [e]
  exact q c _ hc ak (Same.new hc)
noncomputable def ajM:Sp:=fun vs H Q _=>∃ (b:Addr) (l:List Int) (tn:Int),vs=[.ref b,.int tn]/\H b=some (.lst (l.map V.int))/\∀ (c:Addr) (H':Hp),H c=none->H' c=some (.lst ((RG.pick (decide (tn % 2=1)) l).map V.int))->Same H H'->Q (.ref c) H'
theorem ok'2 (T:Tx K mg A):cB P w K mg base CX0 1 A.f'2 A.aa3 Q16 ajM:=by
 k_dat (T.F'2.ok,ah5,s) "a"
 ·obtain ⟨b,l,tn,rfl,_⟩:=h
  rfl
 ·obtain ⟨b,l,tn,rfl,hb,q⟩:=h
  refine ⟨_,(aC (bQ (acP (pv 0) (HB (aK iU (pv 1) aB)) (HB (aK uF (bO dJ (by rfl) T.mZ mK (aj (pv 0) au)) (aK iU (bO dJ (by rfl) T.mZ mK (aj (pv 0) au)) aB))) (HB aB)))),?_⟩
  refine ⟨_,rfl,_,rfl,_,_,rfl,rfl,(by show (0:Int)<2;decide),_,rfl,?_⟩
  refine ⟨_,rfl,jw (.inl (.inl hb)) ⟨_,rfl,jw (.inl (.inl hb)) ⟨_,_,rfl,rfl,(by show (0:Int)<2;decide),_,_,rfl,rfl,_,rfl,?_⟩⟩⟩
  refine ⟨_,rfl,rfl,b,_,rfl,.inl (.inl hb),fun c hc=>?_⟩
  rw [aZ,acQ tb_g%]
  exact q c _ hc ak (Same.new hc)
noncomputable def anF (A:Ad):Sp:=fun vs H Q _=>∃ (p dx:Addr) (r T ov un tn st:Int) (mi ma rf:V),vs=[.ref p,.int st]/\H p=some (.ins A.cX dx (rg (.int r) (.int T) (.int ov) (.int un) (.int tn) mi ma rf)) /\
 Q .non (upd H p (.ins A.cX dx (rg (.int r) (.int T) (.int (if tn % 2=0 then ov+st else ov)) (.int (if tn % 2=0 then un else un+st)) (.int (tn+1)) mi ma rf)))
theorem ok'3 (T:Tx K mg A):cB P w K mg base CX0 1 A.f'3 A.uP Q17 (anF A):=by
 k_dat (T.F'3.ok,Mj,s) "a"
 ·obtain ⟨p,dx,r,T,ov,un,tn,st,mi,ma,rf,rfl,_⟩:=h
  rfl
 ·obtain ⟨p,dx,r,T',ov,un,tn,st,mi,ma,rf,rfl,hp,q⟩:=h
  refine ⟨_,(ao (dO (aQ lN (aK iU (pf 0) aB) aB (aY _)) (aC (aV (pv 0) (aK bA (pf 0) (pv 1)) rfl)) (aC (aV (pv 0) (aK bA (pf 0) (pv 1)) rfl)))
   (aC (aV (pv 0) (aK bA (pf 0) aB) rfl))),?_⟩
  refine ⟨_,rfl,rdF hp T.bT T.qY (m7 ..) ⟨_,_,rfl,rfl,(by show (0:Int)<2;decide),rfl,_,rfl,fH (fun h=>?_) (fun h=>?_)⟩⟩
  ·have h0:tn % 2=0:=V.int.inj (of_decide_eq_true h)
   rw [if_pos h0,if_pos h0] at q
   refine ⟨_,rfl,rdF hp T.bT T.BW (Ia ..) ⟨_,rfl,_,_,rfl,rfl,_,rfl,p,_,dx,_,rfl,hp,T.bT,T.BW,(by show 8<1000;decide),?_⟩⟩
   rw [GJ]
   refine ⟨_,rfl,rdF ak T.bT T.qY (m7 ..) ⟨_,_,rfl,rfl,_,rfl,p,_,dx,_,rfl,ak,T.bT,T.qY,(by show 8<1000;decide),?_⟩⟩
   rw [vd,cU]
   exact q
  ·have h0:¬ tn % 2=0:=fun z=>h (decide_eq_true (congrArg V.int z))
   rw [if_neg h0,if_neg h0] at q
   refine ⟨_,rfl,rdF hp T.bT T.BX (CN ..) ⟨_,rfl,_,_,rfl,rfl,_,rfl,p,_,dx,_,rfl,hp,T.bT,T.BX,(by show 8<1000;decide),?_⟩⟩
   rw [CT]
   refine ⟨_,rfl,rdF ak T.bT T.qY (m7 ..) ⟨_,_,rfl,rfl,_,rfl,p,_,dx,_,rfl,ak,T.bT,T.qY,(by show 8<1000;decide),?_⟩⟩
   rw [vd,cU]
   exact q
theorem LL.but {a C:Addr} {bs:List Addr} {fs:List (Str × V)} (h:LL H a bs ls) (b:But p H H') (hp:H p=some (.ins C e fs)):LL H' a bs ls :=
 ⟨b _ _ h.o (iw h.o hp (by intro z;cases z)),h.n,fun i c l e1 e2=>b _ _ (h.e i c l e1 e2) (iw (h.e i c l e1 e2) hp (by intro z;cases z)),h.x⟩
noncomputable def placeOf (σ:St) (_:Hp):Nat:=match σ with
 | [_,_,_,some (.int n),_,_]=>(1000-n).toNat
 | _=>0
noncomputable def ah7 (A:Ad):Sp:=fun vs H Q _=>∃ (p dx a:Addr) (bs:List Addr) (ls:RG.Ls) (r tt ov un tn:Int) (mi ma:Option Int) (rf:V),vs=[.ref p,.ref a]/\H p=some (.ins A.cX dx (rg (.int r) (.int tt) (.int ov) (.int un) (.int tn) (oV mi) (oV ma) rf))/\LL H a bs ls/\2<=r/\r<=64/\((∀ l∈ls,l.length<=31)\/∀ l∈ls,(l.length:Int)<=r)/\ls.length<=400/\RG.val ls<2 ^ 500 /\
 ∀ (g:Addr) (bs':List Addr) (out:RG.Ls) (tn' ov' un':Int) (H':Hp),RG.Stl r 0 tn ov un ls out tn' ov' un'->H g=none->LL H' g bs' out->H' p=some (.ins A.cX dx (rg (.int r) (.int tt) (.int ov') (.int un') (.int tn') (oV mi) (oV ma) (.ref g)))->But p H H'->out.length<=501->(∀ c∈bs',c∈bs\/H c=none)->Q .non H'
theorem ok'4 (T:Tx K mg A):cB P w K mg base CX0 2 A.f'4 A.pI ["self","lists"] (ah7 A):=by
 k_dat (T.F'4.ok,fu,s) "a"
 ·obtain ⟨p,dx,a,bs,ls,r,tt,ov,un,tn,mi,ma,rf,rfl,_⟩:=h
  rfl
 ·obtain ⟨p,dx,a,bs0,ls,r,tt,ov,un,tn,mi,ma,rf,rfl,hp,hL,r2,r64,h2,h4,h5,q⟩:=h
  refine ⟨_,(ao (psS 2 fu.nd (ji (J0 rfl) (by rfl) T.ZR afe (aj (pv 1) au)))
   (ao (psS 3 fu.nd aB)
   (ao (psS 4 fu.nd aB)
   (ao (jD jB (aQ vC (pv 3) (bO dJ (by rfl) T.mZ mK (aj (pv 2) au)) (aY _)) (ao (psS 5 fu.nd (dw (ixG (cN hr)) (pv 2) (pv 3) (fun _ _=>rfl)))
   (ao (dO (aQ Gn (bO dJ (by rfl) T.mZ mK (aj (pv 5) au)) (pf 0) (aY _)) (ao (dO (aQ lN (aK bA (pv 3) aB) (bO dJ (by rfl) T.mZ mK (aj (pv 2) au)) (aY _)) (aC (bC (jG mL sY sZ d8 (pv 2) (aj (dR au) au)))) cG)
   (ao (Fd (aF (ok'1 T) tb_g% T.F'1 aL (aj (pv 5) au)) (Fb (pv 2) (pv 3) (setG (cN hr))))
   (ao (Fd (bO (lB rfl) (by rfl) T.pZ Ep (aj (aK wX (dw (ixG (cN hr)) (pv 2) (aK bA (pv 3) aB) (fun _ _=>rfl)) (aF (ok'2 T) tb_g% T.F'2 aL (aj (pv 5) (aj (pf 0) au)))) au)) (Fb (pv 2) (aK bA (pv 3) aB) (setG (cN hr))))
   (aC (bC (cI (pv 0) T.bT T.RM (ok'3 T) tb_g% T.b'3 .nil aL (aj (pv 4) au))))))) cG)
   (ao (psS 3 fu.nd (aK bA (pv 3) aB))
   (aC (psS 4 fu.nd (aK lA (pv 4) aB)))))))
   (aC (aV (pv 0) (pv 2) rfl)))))),?_⟩
  refine ⟨_,rfl,.inl ⟨a,_,rfl,.inl (.inl (.inl hL.o)),fun g hg=>?_⟩⟩
  have L0:=hL.copy hg
  have s0:Same H (upd H g (.lst (bs0.map V.ref))):=Same.new hg
  generalize upd H g (.lst (bs0.map V.ref))=H1 at L0 s0 ⊢
  refine jE (fun σ G=>∃ (bs:List Addr) (ms:RG.Ls) (j:Nat) (tn2 ov2 un2:Int) (x:Option V),σ=[some (.ref p),some (.ref a),some (.ref g),some (.int (j:Int)),some (.int (2 ^ j)),x]/\LL G g bs ms/\G p=some (.ins A.cX dx (rg (.int r) (.int tt) (.int ov2) (.int un2) (.int tn2) (oV mi) (oV ma) rf))/\But p H G/\RG.Run r tn ov un ls j tn2 ov2 un2 ms/\ms.length<=501/\∀ c∈bs,c∈bs0\/H c=none) placeOf
   ⟨bs0,ls,0,tn,ov,un,none,rfl,L0,s0 _ _ hp,s0.but p,RG.Run.start,by lia,fun c hc=>.inl hc⟩ ?_ ?_
  ·rintro σ G ⟨bs,ms,j,tn2,ov2,un2,x,rfl,L,gp,bt,R,ln,fr⟩
   have jl:=R.le
   have ep:((j:Int)+1)=((j+1:Nat):Int):=by lia
   refine ⟨_,rfl,_,rfl,jw (.inl (.inl L.o)) ⟨_,_,rfl,rfl,_,rfl,fH (fun hc=>?_) (fun hc=>?_)⟩⟩
   ·have hj:j<ms.length:=by
     have:=of_decide_eq_true hc
     rw [aZ,L.n] at this
     lia
    obtain ⟨b,l,eb,el,hb⟩:=L.at hj
    have nbg:b≠g:=fun z=>L.x (by rw [<- z];exact List.mem_of_getElem? eb)
    refine ⟨_,rfl,_,rfl,lO (.inl (.inl L.o)) (v:=.ref b) (LL.ix eb) ?_⟩
    refine ⟨_,rfl,jw (.inl (.inl hb)) ⟨_,rfl,rdF gp T.bT T.BR (yD ..) ⟨_,_,rfl,rfl,_,rfl,fH (fun hg2=>?_) (fun hg2=>?_)⟩⟩⟩
    ·have hgt:r<(l.length:Int):=by have:=of_decide_eq_true hg2;rw [aZ] at this;exact this
     have hs:∀ l∈ls,l.length<=31:=h2.resolve_right fun z=>by
      have e:=R.b0 z
      have:=z l (by rw [<- e];exact List.mem_of_getElem? el)
      lia
     have ll4:=R.b1 hs l (List.mem_of_getElem? el)
     have hl2:2<=l.length:=by lia
     have hbig:=R.big el (fun z=>by rw [z] at hl2;exact absurd hl2 (by decide))
     have j5:j<500:=by
      rcases ig j 500 with z | z
      ·exact z
      ·have:=yR (show 0<2 by decide) z
       lia
     refine ⟨_,rfl,_,_,rfl,rfl,_,rfl,jw (.inl (.inl L.o)) ⟨rfl,_,rfl,fH (fun he=>?_) (fun he=>?_)⟩⟩
     ·have he:j+1=ms.length:=by
       have:=V.int.inj (of_decide_eq_true he)
       rw [aZ,L.n] at this
       lia
      refine ⟨_,rfl,.inl ⟨rfl,_,.inl (.inl L.o)⟩,by show 0<=sizeLine;decide,fun c hc0=>?_⟩
      have s1:Same G (upd G c (.lst [])):=Same.new hc0
      have f1:(upd G c (.lst [])) c=some (.lst (([]:List Int).map V.int)):=ak
      generalize upd G c (.lst [])=G1 at s1 f1 ⊢
      have nc:c≠g:=aU (aq L.o hc0)
      refine ⟨g,_,_,rfl,rfl,s1 _ _ L.o,bB (by rw [aZ,L.n];lia),?_⟩
      have LX:=(L.same s1).app f1 nc
      have gx:∀ x o,G x=some o->x≠g->(upd G1 g (.lst (bs.map V.ref++[.ref c]))) x=some o:=fun x o e n=>by rw [aA n];exact s1 _ _ e
      have pX:=gx _ _ gp (iw gp L.o (by intro z;cases z))
      have bX:=gx _ _ hb nbg
      have btX:But p H (upd G1 g (.lst (bs.map V.ref++[.ref c]))):=fun b o e n=>gx _ _ (bt b o e n) (aq e hg)
      generalize upd G1 g (.lst (bs.map V.ref++[.ref c]))=GX at LX pX bX btX ⊢
      obtain ⟨nx,MR⟩:∃ nx:List Int,RG.More j ms (ms++[[]]) nx:=⟨[],.inr ⟨he,rfl,rfl⟩⟩
      have hb:=bX
      have SG:Same GX GX:=Same.refl _
      have fr2:∀ x∈bs++[c],x∈bs0\/H x=none:=fun x hx=>by
       rcases cR.mp hx with z | z
       ·exact fr x z
       ·rw [dh.mp z];exact .inr (gR bt hc0 fun y=>by rw [y,gp] at hc0;cases hc0)
      have LN:(ms++[[]]).length<=501:=by rw [cV];show ms.length+1<=501;lia
      obtain ⟨h1,h2,_,_,_⟩:=MR.at el
      obtain ⟨hp1,_⟩:=gH.mp h1
      obtain ⟨hp2,_⟩:=gH.mp h2
      have hb':GX b=some (.lst (l.map V.int)):=SG _ _ hb
      refine ⟨_,rfl,b,l,rfl,hb',fun c1 G1 nc1 f1 s1=>?_⟩
      have L1:=LX.same s1
      have n1:c1≠g:=aU (aq LX.o nc1)
      refine ⟨_,rfl,_,rfl,.inl ⟨g,_,_,j,rfl,rfl,L1.o,yE (by rw [aZ,LX.n];exact hp1),?_⟩⟩
      have L2:=L1.set (i:=j) f1 n1
      have pg:p≠g:=iw (s1 _ _ pX) L1.o (by intro z;cases z)
      have u2:∀ x o,G1 x=some o->x≠g->(upd G1 g (.lst (((bs++[c]).map V.ref).set j (.ref c1)))) x=some o:=fun x o e n=>by rw [aA n];exact e
      have po2:=u2 _ _ (s1 _ _ pX) pg
      have hb2:=u2 _ _ (s1 _ _ hb') nbg
      have s02:But p H (upd G1 g (.lst (((bs++[c]).map V.ref).set j (.ref c1)))):=fun x o e n=>u2 _ _ (s1 _ _ (btX x o e n)) (aq e hg)
      generalize upd G1 g (.lst (((bs++[c]).map V.ref).set j (.ref c1)))=G2 at L2 po2 hb2 s02 ⊢
      have e2:((ms++[[]]).set j (RG.lft l))[j+1]? = some nx:=by rw [Av tb_g%];exact h2
      obtain ⟨b3,l3,eb3,el3,hb3⟩:=L2.at (i:=j+1) (by rw [jz];exact hp2)
      obtain rfl:l3=nx:=by rw [e2] at el3;exact (bW el3).symm
      have nx2:l3.length<=31:=by
       rcases MR with ⟨_,e⟩ | ⟨_,_,e⟩
       ·exact R.b2 hs l3 (by rw [RG.gJ e];exact eN)
       ·rw [e];exact dF _
      refine ⟨_,rfl,_,rfl,_,_,rfl,rfl,lO (.inl (.inl L2.o)) (v:=.ref b3) (by rw [ep];exact LL.ix eb3) ?_⟩
      refine ⟨_,rfl,_,rfl,rdF po2 T.bT T.qY (m7 ..) ⟨b,l,tn2,rfl,hb2,fun c4 G4 nc4 f4 s4=>?_⟩⟩
      have lp:=RG.mW (decide (tn2 % 2=1)) l
      refine ⟨b3,c4,_,_,rfl,rfl,s4 _ _ hb3,f4,ou (bB (by rw [aZ,aZ];lia)),fun c5 nc5=>?_⟩
      rw [<- cC]
      have s5:Same G4 (upd G4 c5 (.lst ((l3++RG.pick (decide (tn2 % 2=1)) l).map V.int))):=Same.new nc5
      have f5:(upd G4 c5 (.lst ((l3++RG.pick (decide (tn2 % 2=1)) l).map V.int))) c5=some (.lst ((l3++RG.pick (decide (tn2 % 2=1)) l).map V.int)):=ak
      generalize upd G4 c5 (.lst ((l3++RG.pick (decide (tn2 % 2=1)) l).map V.int))=G5 at s5 f5 ⊢
      refine .inr ⟨c5,_,rfl,.inl (.inl f5),by rw [cV];lia,fun c6 ns nc6 pm so=>?_⟩
      obtain rfl:=RG.rZ pm so
      have s6:Same G5 (upd G5 c6 (.lst ((RG.srt (l3++RG.pick (decide (tn2 % 2=1)) l)).map V.int))):=Same.new nc6
      have f6:(upd G5 c6 (.lst ((RG.srt (l3++RG.pick (decide (tn2 % 2=1)) l)).map V.int))) c6=some (.lst ((RG.srt (l3++RG.pick (decide (tn2 % 2=1)) l)).map V.int)):=ak
      generalize upd G5 c6 (.lst ((RG.srt (l3++RG.pick (decide (tn2 % 2=1)) l)).map V.int))=G6 at s6 f6 ⊢
      have s26:=s4.trans (s5.trans s6)
      have L6:=L2.same s26
      have n6:c6≠g:=aU (aq ((s4.trans s5) _ _ L2.o) nc6)
      refine ⟨_,rfl,_,rfl,_,_,rfl,rfl,.inl ⟨g,_,_,j+1,rfl,rfl,L6.o,by rw [ep];exact yE (by rw [aZ,jz,LX.n];exact hp2),?_⟩⟩
      have L7:=L6.set (i:=j+1) f6 n6
      have po7:(upd G6 g (.lst ((((bs++[c]).set j c1).map V.ref).set (j+1) (.ref c6)))) p=_:=(aA pg).trans (s26 _ _ po2)
      have s07:But p H (upd G6 g (.lst ((((bs++[c]).set j c1).map V.ref).set (j+1) (.ref c6)))):=fun x o e n=>by rw [aA (aq e hg)];exact s26 _ _ (s02 x o e n)
      generalize upd G6 g (.lst ((((bs++[c]).set j c1).map V.ref).set (j+1) (.ref c6)))=G7 at L7 po7 s07 ⊢
      refine ⟨_,rfl,p,dx,_,rfl,po7,rgN tb_g%,_,rfl,p,dx,r,tt,ov2,un2,tn2,2 ^ j,oV mi,oV ma,rf,rfl,po7,?_⟩
      have R8:=R.turn MR el hgt
      have L8:LL (upd G7 p (.ins A.cX dx (rg (.int r) (.int tt) (.int (if tn2 % 2=0 then ov2+2 ^ j else ov2)) (.int (if tn2 % 2=0 then un2 else un2+2 ^ j)) (.int (tn2+1)) (oV mi) (oV ma) rf))) g _ _:=L7.but (But.upd) po7
      have po8:(upd G7 p (.ins A.cX dx (rg (.int r) (.int tt) (.int (if tn2 % 2=0 then ov2+2 ^ j else ov2)) (.int (if tn2 % 2=0 then un2 else un2+2 ^ j)) (.int (tn2+1)) (oV mi) (oV ma) rf))) p=_:=ak
      have s08:But p H (upd G7 p (.ins A.cX dx (rg (.int r) (.int tt) (.int (if tn2 % 2=0 then ov2+2 ^ j else ov2)) (.int (if tn2 % 2=0 then un2 else un2+2 ^ j)) (.int (tn2+1)) (oV mi) (oV ma) rf))):=s07.trans But.upd
      generalize upd G7 p (.ins A.cX dx (rg (.int r) (.int tt) (.int (if tn2 % 2=0 then ov2+2 ^ j else ov2)) (.int (if tn2 % 2=0 then un2 else un2+2 ^ j)) (.int (tn2+1)) (oV mi) (oV ma) rf))=G8 at L8 po8 s08 ⊢
      refine ⟨_,rfl,_,_,rfl,rfl,_,rfl,_,_,rfl,rfl,iV (by decide) (by decide),?_,?_⟩
      ·exact ⟨_,_,j+1,_,_,_,_,by rw [<- ep,lM];rfl,L8,po8,s08,R8,by rw [jz,jz];exact LN,fun c hc=>by
        rcases vV hc with z | z
        ·rcases vV z with z | z
         ·exact fr2 c z
         ·rw [z];exact .inr (gR btX nc1 fun y=>by rw [y,pX] at nc1;cases nc1)
        ·rw [z];exact .inr (gR (s02.trans ((s4.trans s5).but p)) nc6 fun y=>by rw [y,(s4.trans s5) _ _ po2] at nc6;cases nc6)⟩
      ·show (1000-((j:Int)+1)).toNat<(1000-(j:Int)).toNat
       lia
     ·have he:¬ j+1=ms.length:=fun z=>he (decide_eq_true (congrArg V.int (by rw [aZ,L.n];lia)))
      obtain ⟨b',nx,eb',el',_⟩:=L.at (i:=j+1) tb_g%
      have MR:RG.More j ms ms nx:=.inl ⟨rfl,el'⟩
      have SG:Same G G:=Same.refl _
      have LN:=ln
      obtain ⟨h1,h2,_,_,_⟩:=MR.at el
      obtain ⟨hp1,_⟩:=gH.mp h1
      obtain ⟨hp2,_⟩:=gH.mp h2
      have hb':G b=some (.lst (l.map V.int)):=SG _ _ hb
      refine ⟨_,rfl,b,l,rfl,hb',fun c1 G1 nc1 f1 s1=>?_⟩
      have L1:=L.same s1
      have n1:c1≠g:=aU (aq L.o nc1)
      refine ⟨_,rfl,_,rfl,.inl ⟨g,_,_,j,rfl,rfl,L1.o,yE (by rw [aZ,L.n];exact hp1),?_⟩⟩
      have L2:=L1.set (i:=j) f1 n1
      have pg:p≠g:=iw (s1 _ _ gp) L1.o (by intro z;cases z)
      have u2:∀ x o,G1 x=some o->x≠g->(upd G1 g (.lst ((bs.map V.ref).set j (.ref c1)))) x=some o:=fun x o e n=>by rw [aA n];exact e
      have po2:=u2 _ _ (s1 _ _ gp) pg
      have hb2:=u2 _ _ (s1 _ _ hb') nbg
      have s02:But p H (upd G1 g (.lst ((bs.map V.ref).set j (.ref c1)))):=fun x o e n=>u2 _ _ (s1 _ _ (bt x o e n)) (aq e hg)
      generalize upd G1 g (.lst ((bs.map V.ref).set j (.ref c1)))=G2 at L2 po2 hb2 s02 ⊢
      have e2:(ms.set j (RG.lft l))[j+1]? = some nx:=by rw [Av tb_g%];exact h2
      obtain ⟨b3,l3,eb3,el3,hb3⟩:=L2.at (i:=j+1) (by rw [jz];exact hp2)
      obtain rfl:l3=nx:=by rw [e2] at el3;exact (bW el3).symm
      have nx2:l3.length<=31:=by
       rcases MR with ⟨_,e⟩ | ⟨_,_,e⟩
       ·exact R.b2 hs l3 (by rw [RG.gJ e];exact eN)
       ·rw [e];exact dF _
      refine ⟨_,rfl,_,rfl,_,_,rfl,rfl,lO (.inl (.inl L2.o)) (v:=.ref b3) (by rw [ep];exact LL.ix eb3) ?_⟩
      refine ⟨_,rfl,_,rfl,rdF po2 T.bT T.qY (m7 ..) ⟨b,l,tn2,rfl,hb2,fun c4 G4 nc4 f4 s4=>?_⟩⟩
      have lp:=RG.mW (decide (tn2 % 2=1)) l
      refine ⟨b3,c4,_,_,rfl,rfl,s4 _ _ hb3,f4,ou (bB (by rw [aZ,aZ];lia)),fun c5 nc5=>?_⟩
      rw [<- cC]
      have s5:Same G4 (upd G4 c5 (.lst ((l3++RG.pick (decide (tn2 % 2=1)) l).map V.int))):=Same.new nc5
      have f5:(upd G4 c5 (.lst ((l3++RG.pick (decide (tn2 % 2=1)) l).map V.int))) c5=some (.lst ((l3++RG.pick (decide (tn2 % 2=1)) l).map V.int)):=ak
      generalize upd G4 c5 (.lst ((l3++RG.pick (decide (tn2 % 2=1)) l).map V.int))=G5 at s5 f5 ⊢
      refine .inr ⟨c5,_,rfl,.inl (.inl f5),by rw [cV];lia,fun c6 ns nc6 pm so=>?_⟩
      obtain rfl:=RG.rZ pm so
      have s6:Same G5 (upd G5 c6 (.lst ((RG.srt (l3++RG.pick (decide (tn2 % 2=1)) l)).map V.int))):=Same.new nc6
      have f6:(upd G5 c6 (.lst ((RG.srt (l3++RG.pick (decide (tn2 % 2=1)) l)).map V.int))) c6=some (.lst ((RG.srt (l3++RG.pick (decide (tn2 % 2=1)) l)).map V.int)):=ak
      generalize upd G5 c6 (.lst ((RG.srt (l3++RG.pick (decide (tn2 % 2=1)) l)).map V.int))=G6 at s6 f6 ⊢
      have s26:=s4.trans (s5.trans s6)
      have L6:=L2.same s26
      have n6:c6≠g:=aU (aq ((s4.trans s5) _ _ L2.o) nc6)
      refine ⟨_,rfl,_,rfl,_,_,rfl,rfl,.inl ⟨g,_,_,j+1,rfl,rfl,L6.o,by rw [ep];exact yE (by rw [aZ,jz,L.n];exact hp2),?_⟩⟩
      have L7:=L6.set (i:=j+1) f6 n6
      have po7:(upd G6 g (.lst (((bs.set j c1).map V.ref).set (j+1) (.ref c6)))) p=_:=(aA pg).trans (s26 _ _ po2)
      have s07:But p H (upd G6 g (.lst (((bs.set j c1).map V.ref).set (j+1) (.ref c6)))):=fun x o e n=>by rw [aA (aq e hg)];exact s26 _ _ (s02 x o e n)
      generalize upd G6 g (.lst (((bs.set j c1).map V.ref).set (j+1) (.ref c6)))=G7 at L7 po7 s07 ⊢
      refine ⟨_,rfl,p,dx,_,rfl,po7,rgN tb_g%,_,rfl,p,dx,r,tt,ov2,un2,tn2,2 ^ j,oV mi,oV ma,rf,rfl,po7,?_⟩
      have R8:=R.turn MR el hgt
      have L8:LL (upd G7 p (.ins A.cX dx (rg (.int r) (.int tt) (.int (if tn2 % 2=0 then ov2+2 ^ j else ov2)) (.int (if tn2 % 2=0 then un2 else un2+2 ^ j)) (.int (tn2+1)) (oV mi) (oV ma) rf))) g _ _:=L7.but (But.upd) po7
      have po8:(upd G7 p (.ins A.cX dx (rg (.int r) (.int tt) (.int (if tn2 % 2=0 then ov2+2 ^ j else ov2)) (.int (if tn2 % 2=0 then un2 else un2+2 ^ j)) (.int (tn2+1)) (oV mi) (oV ma) rf))) p=_:=ak
      have s08:But p H (upd G7 p (.ins A.cX dx (rg (.int r) (.int tt) (.int (if tn2 % 2=0 then ov2+2 ^ j else ov2)) (.int (if tn2 % 2=0 then un2 else un2+2 ^ j)) (.int (tn2+1)) (oV mi) (oV ma) rf))):=s07.trans But.upd
      generalize upd G7 p (.ins A.cX dx (rg (.int r) (.int tt) (.int (if tn2 % 2=0 then ov2+2 ^ j else ov2)) (.int (if tn2 % 2=0 then un2 else un2+2 ^ j)) (.int (tn2+1)) (oV mi) (oV ma) rf))=G8 at L8 po8 s08 ⊢
      refine ⟨_,rfl,_,_,rfl,rfl,_,rfl,_,_,rfl,rfl,iV (by decide) (by decide),?_,?_⟩
      ·exact ⟨_,_,j+1,_,_,_,_,by rw [<- ep,lM];rfl,L8,po8,s08,R8,by rw [jz,jz];exact LN,fun c hc=>by
        rcases vV hc with z | z
        ·rcases vV z with z | z
         ·exact fr c z
         ·rw [z];exact .inr (gR bt nc1 fun y=>by rw [y,gp] at nc1;cases nc1)
        ·rw [z];exact .inr (gR (s02.trans ((s4.trans s5).but p)) nc6 fun y=>by rw [y,(s4.trans s5) _ _ po2] at nc6;cases nc6)⟩
      ·show (1000-((j:Int)+1)).toNat<(1000-(j:Int)).toNat
       lia
    ·have hle:(l.length:Int)<=r:=by
      have:¬ r<((l.map V.int).length:Int):=fun z=>hg2 (decide_eq_true z)
      rw [aZ] at this
      lia
     refine ⟨_,rfl,_,_,rfl,rfl,_,rfl,_,_,rfl,rfl,iV (by decide) (by decide),?_,?_⟩
     ·exact ⟨bs,ms,j+1,_,_,_,_,by rw [<- ep,lM];rfl,L,gp,bt,R.keep el hle,ln,fr⟩
     ·show (1000-((j:Int)+1)).toNat<(1000-(j:Int)).toNat
      lia
   ·have hj:ms.length<=j:=by
     have:¬ (j:Int)<((bs.map V.ref).length:Int):=fun z=>hc (decide_eq_true z)
     rw [aZ,L.n] at this
     lia
    refine ⟨_,rfl,_,rfl,p,_,dx,_,rfl,gp,T.bT,T.zc,(by show 8<1000;decide),?_⟩
    rw [RX]
    exact q g bs ms tn2 ov2 un2 _ (R.done hj) hg (L.but But.upd gp) ak (bt.trans But.upd) ln fr
  ·exact fun σ H Q Q' hq h=>fj (jj (bU 3) (U8 (tO (bU 2) KD))) σ H Q Q' hq h
noncomputable def lo2:Option Int->Option Int->Option Int
 | none,b=>b
 | a,none=>a
 | some a,some b=>some (min a b)
noncomputable def hi2:Option Int->Option Int->Option Int
 | none,b=>b
 | a,none=>a
 | some a,some b=>some (max a b)
noncomputable def abb (a b:Option Int):List Int:=a.toList++b.toList
theorem ajN {v:V} (h:Best true (abb a b) v):v=oV (lo2 a b):=by
 rcases h with ⟨e,rfl⟩ | ⟨m,rfl,hm,hb⟩
 ·cases a <;> cases b <;> first | rfl | cases e
 ·cases a with
  | none=>cases b with
   | none=>cases hm
   | some b=>rw [dh.mp hm];rfl
  | some a=>cases b with
   | none=>rw [dh.mp hm];rfl
   | some b =>
    have h1:=hb a eN
    have h2:=hb b (fB _ eN)
    rw [if_pos rfl] at h1 h2
    have:m=min a b:=by
     rcases cP.mp hm with z | z
     ·lia
     ·have:=dh.mp z;lia
    rw [this];rfl
theorem ajO {v:V} (h:Best false (abb a b) v):v=oV (hi2 a b):=by
 rcases h with ⟨e,rfl⟩ | ⟨m,rfl,hm,hb⟩
 ·cases a <;> cases b <;> first | rfl | cases e
 ·cases a with
  | none=>cases b with
   | none=>cases hm
   | some b=>rw [dh.mp hm];rfl
  | some a=>cases b with
   | none=>rw [dh.mp hm];rfl
   | some b =>
    have h1:=hb a eN
    have h2:=hb b (fB _ eN)
    rw [if_neg (by decide)] at h1 h2
    have:m=max a b:=by
     rcases cP.mp hm with z | z
     ·lia
     ·have:=dh.mp z;lia
    rw [this];rfl
noncomputable def known (a b:Option Int) (i:Nat):List V:=(([a,b].take i).flatMap Option.toList).map V.int
noncomputable def CW (f:Option Int->Option Int->Option Int):Sp:=fun vs H Q _=>∃ (a b:Option Int),vs=[oV a,oV b]/\∀ H',Same H H'->Q (oV (f a b)) H'
theorem akO (T:Tx K mg A):cB P w K mg base CX0 1 A.f'6 A.KJ Q1 (CW lo2)/\cB P w K mg base CX0 1 A.f'5 A.FJ Q1 (CW hi2):=by
 refine ⟨T.F'6.ok Oc (fun vs H Q E h=>?_) (fun cdv B outer s H vs Q E hr h=>?_),T.F'5.ok K9 (fun vs H Q E h=>?_) (fun cdv B outer s H vs Q E hr h=>?_)⟩
 ·obtain ⟨a,b,rfl,_⟩:=h
  rfl
 rotate_left
 ·obtain ⟨a,b,rfl,_⟩:=h
  rfl
 obtain ⟨a,b,rfl,q⟩:=h
 refine ⟨_,(ao (uK (i:=2) (cl:=[]) (N:=Q10) (caps:=[]) (tt:=_) (te:=_) K9.nd rfl (Or.inl rfl) rfl (by with_unfolding_all rfl) tb_g% rfl tb_g% trivial (xr (by with_unfolding_all rfl)) tb_g% rfl rfl rfl (gQ.at (k:=1) (show gQ _ _ _ _ 1 [] from trivial)) (agF (lY (aj (pv 0) (aj (pv 1) au)))) (fun _ _ _ _=>(HN (aQ Hy (pv 0) lW (aY _)))) (fun _ _ _ _=>(pv 0)))
   (aC (bQ (UW false T.aa9 (pv 2) rfl)))),?_⟩
 rotate_left
 obtain ⟨a,b,rfl,q⟩:=h
 refine ⟨_,(ao (uK (i:=2) (cl:=[]) (N:=Q10) (caps:=[]) (tt:=_) (te:=_) Oc.nd rfl (Or.inl rfl) rfl (by with_unfolding_all rfl) tb_g% rfl tb_g% trivial (xr (by with_unfolding_all rfl)) tb_g% rfl rfl rfl (gQ.at (k:=1) (show gQ _ _ _ _ 1 [] from trivial)) (agF (lY (aj (pv 0) (aj (pv 1) au)))) (fun _ _ _ _=>(HN (aQ Hy (pv 0) lW (aY _)))) (fun _ _ _ _=>(pv 0)))
   (aC (bQ (UW true T.akM (pv 2) rfl)))),?_⟩
 all_goals
  refine ⟨_,rfl,_,rfl,by show 2<=sizeLine;decide,fun t ht=>?_⟩
  have s1:Same H (upd H t (.tup [oV a,oV b])):=Same.new ht
  have f1:(upd H t (.tup [oV a,oV b])) t=some (.tup [oV a,oV b]):=ak
  generalize upd H t (.tup [oV a,oV b])=H1 at s1 f1 ⊢
  refine ⟨t,rfl,⟨_,.inl (.inl f1)⟩,fun D hD=>?_⟩
  refine ZC (K:=K) (a:=t) (xs:=[oV a,oV b]) (fun i ys G=>ys=known a b i/\G=upd H1 D (.lst ys)) ⟨rfl,rfl⟩ ?_ ?_ ?_ ?_ ?_
  ·rintro i ys G hi ⟨rfl,rfl⟩
   refine ⟨.inl (.inl ((Same.new hD) _ _ f1)),ak,bB ?_⟩
   unfold known
   cases a <;> cases b <;> match i,hi with
    | 0,_=>simp
    | 1,_=>simp
    | 2,_=>simp
  ·rintro i ys G x hx ⟨rfl,rfl⟩
   match i,hx with
   | 0,hx =>
    obtain rfl:oV a=x:=bW hx
    cases a with
    | none=>exact ⟨_,rfl,rfl,_,rfl,fH (fun h=>absurd h (by decide)) (fun _=>⟨ak,rfl,rfl⟩)⟩
    | some z=>exact ⟨_,rfl,rfl,_,rfl,fH (fun _=>⟨_,rfl,ak,rfl,by rw [cU]⟩) (fun h=>absurd (show (!decide (V.int z=V.non))=true by rw [decide_eq_false (by intro y;cases y)];rfl) h)⟩
   | 1,hx =>
    obtain rfl:oV b=x:=bW hx
    cases b with
    | none=>exact ⟨_,rfl,rfl,_,rfl,fH (fun h=>absurd h (by decide)) (fun _=>⟨ak,by cases a <;> rfl,by cases a <;> rfl⟩)⟩
    | some z=>exact ⟨_,rfl,rfl,_,rfl,fH (fun _=>⟨_,rfl,ak,by cases a <;> rfl,by rw [cU]⟩) (fun h=>absurd (show (!decide (V.int z=V.non))=true by rw [decide_eq_false (by intro y;cases y)];rfl) h)⟩
  ·rintro ys G ⟨rfl,rfl⟩
   have ek:known a b [oV a,oV b].length=(abb a b).map V.int:=by cases a <;> cases b <;> rfl
   rw [ek]
   refine ⟨_,rfl,D,abb a b,rfl,.inl (.inl ak),fun v hv=>?_⟩
   first | rw [ajN hv] | rw [ajO hv]
   exact q _ (s1.trans (Same.new hD))
  ·exact fun σ H R R' hr h=>fj (yx (r:=fun x y H Q=>y = .non/\Q (.bl (!decide (x = .non))) H) (fun x y H Q Q' hq h=>⟨h.1,hq _ _ h.2⟩) (bU 0) (mC _)) σ H R R' hr h
  ·exact bU 0
theorem ok'6 (T:Tx K mg A):cB P w K mg base CX0 1 A.f'6 A.KJ Q1 (CW lo2):=(akO T).1
theorem ok'5 (T:Tx K mg A):cB P w K mg base CX0 1 A.f'5 A.FJ Q1 (CW hi2):=(akO T).2
noncomputable def ajP (A:Ad):Sp:=fun vs H Q _=>∃ (p dx:Addr) (r:Int),vs=[.ref p,.int r]/\H p=some (.ins A.cX dx []) /\
 ∀ (d:Addr) (H':Hp),H d=none->H' p=some (.ins A.cX dx (rg (.int r) (.int 0) (.int 0) (.int 0) (.int 0) .non .non (.ref d)))->H' d=some (.lst [])->But p H H'->Q .non H'
theorem ok'7 (T:Tx K mg A):cB P w K mg base CX0 1 A.f'7 A.uQ Q3 (ajP A):=by
 k_dat (T.F'7.ok,Ml,s) "a"
 ·obtain ⟨p,dx,r,rfl,_⟩:=h
  rfl
 ·obtain ⟨p,dx,r,rfl,hp,q⟩:=h
  refine ⟨_,(ao (aV (pv 0) (pv 1) rfl)
   (ao (aV (pv 0) aB rfl)
   (ao (aV (pv 0) aB rfl)
   (ao (aV (pv 0) aB rfl)
   (ao (aV (pv 0) aB rfl)
   (ao (aV (pv 0) lW rfl)
   (ao (aV (pv 0) lW rfl)
   (aC (aV (pv 0) (dR au) rfl))))))))),?_⟩
  refine ⟨_,rfl,_,rfl,p,_,dx,[],rfl,hp,T.bT,T.BR,(by show 0<1000;decide),?_⟩
  k_dat (dx,ak,T.bT,T.za,1) "b"
  k_dat (dx,ak,T.bT,T.BW,2) "b"
  k_dat (dx,ak,T.bT,T.BX,3) "b"
  k_dat (dx,ak,T.bT,T.qY,4) "b"
  k_dat (dx,ak,T.bT,T.BZ,5) "b"
  k_dat (dx,ak,T.bT,T.Ca,6) "b"
  rw [cU,cU,cU,cU,cU,cU]
  refine ⟨(by show 0<=sizeLine;decide),fun d hd=>?_⟩
  have npd:p≠d:=fun z=>by rw [<- z,ak] at hd;cases hd
  rw [aA (aU npd)] at hd
  refine ⟨_,rfl,p,_,dx,_,rfl,(by rw [aA npd];exact ak),T.bT,T.zc,(by show 7<1000;decide),?_⟩
  refine q d _ hd (Et ak (by rw [anA])) (by rw [aA (aU npd),ak]) fun b o e hb=>?_
  rw [aA hb,aA (aq e hd),aA hb]
  exact e
/-- a Rungs -/
structure Rn (A:Ad) (H:Hp) (p dx a:Addr) (bs:List Addr) (r tt ov un tn:Int) (mi ma:Option Int) (ls:RG.Ls):Prop where
 o:H p=some (.ins A.cX dx (rg (.int r) (.int tt) (.int ov) (.int un) (.int tn) (oV mi) (oV ma) (.ref a)))
 l:LL H a bs ls
section
variable {a:Addr} {bs:List Addr} {r tt ov un tn:Int} {mi ma:Option Int}
theorem Rn.same (h:Rn A H p dx a bs r tt ov un tn mi ma ls) (s:Same H H'):Rn A H' p dx a bs r tt ov un tn mi ma ls:=⟨s _ _ h.o,h.l.same s⟩
theorem Rn.but {q C:Addr} {fs:List (Str × V)} (h:Rn A H p dx a bs r tt ov un tn mi ma ls) (b:But q H H') (hq:H q=some (.ins C e fs)) (n:p≠q):Rn A H' p dx a bs r tt ov un tn mi ma ls:=⟨b _ _ h.o n,h.l.but b hq⟩
theorem Rn.new (h1:H p=some (.ins A.cX dx (rg (.int r) (.int 0) (.int 0) (.int 0) (.int 0) .non .non (.ref d)))) (h2:H d=some (.lst [])):Rn A H p dx d [] r 0 0 0 0 none none [] :=
 ⟨h1,⟨h2,rfl,fun i b l e=>by (cases i <;> cases e),fun z=>nomatch z⟩⟩
end
noncomputable def anG (A:Ad):Sp:=fun vs H Q _=>∃ (p dx a:Addr) (bs:List Addr) (r tt ov un tn t w:Int) (mi ma:Option Int) (ls:RG.Ls),vs=[.ref p,.int t,.int w]/\Rn A H p dx a bs r tt ov un tn mi ma ls/\2<=r/\r<=64/\0<=w/\w<2 ^ 64/\ls.length<=400/\(∀ l∈ls,l.length<=62)/\((∀ l∈ls,l.length<=30)\/∀ l∈ls,(l.length:Int)+1<=r)/\RG.val ls<2 ^ 400 /\
 ∀ (a':Addr) (bs':List Addr) (out:RG.Ls) (tn' ov' un':Int) (H':Hp),RG.Stl r 0 tn ov un (RG.gG t ls w.toNat) out tn' ov' un'->Rn A H' p dx a' bs' r (tt+w) ov' un' tn' (lo2 mi (some t)) (hi2 ma (some t)) out->But p H H'->H a'=none->(∀ c∈bs',c∈bs\/H c=none)->Q .non H'
theorem ok'8 (T:Tx K mg A):cB P w K mg base CX0 5 A.f'8 A.xH Q2 (anG A):=by
 k_dat (T.F'8.ok,RT,s) "a"
 ·obtain ⟨p,dx,a,bs,r,tt,ov,un,tn,t,w,mi,ma,ls,rfl,_⟩:=h
  rfl
 ·obtain ⟨p,dx,a,bs,r,tt,ov,un,tn,t,w,mi,ma,ls,rfl,hR,r2,r64,w0,w64,h3,h1,h6,hv,q⟩:=h
  refine ⟨_,(ao (aV (pv 0) (aK bA (pf 0) (pv 2)) rfl)
   (ao (aV (pv 0) (aF (ok'6 T) tb_g% T.F'6 aL (aj (pf 0) (aj (pv 1) au))) rfl)
   (ao (aV (pv 0) (aF (ok'5 T) tb_g% T.F'5 aL (aj (pf 0) (aj (pv 1) au))) rfl)
   (aC (bC (cI (pv 0) T.bT T.xU (ok'4 T) tb_g% T.b'4 .nil aL (aj (aF (ok'0 T) tb_g% T.F'0 aL (aj (pf 0) (aj (pv 1) (aj (pv 2) au)))) au))))))),?_⟩
  refine ⟨_,rfl,rdF hR.o T.bT T.za (xZ ..) ⟨_,rfl,_,_,rfl,rfl,_,rfl,p,_,dx,_,rfl,hR.o,T.bT,T.za,(by show 8<1000;decide),?_⟩⟩
  rw [CQ]
  have b1:But p H (upd H p (.ins A.cX dx (rg (.int r) (.int (tt+w)) (.int ov) (.int un) (.int tn) (oV mi) (oV ma) (.ref a)))):=But.upd
  have o1:(upd H p (.ins A.cX dx (rg (.int r) (.int (tt+w)) (.int ov) (.int un) (.int tn) (oV mi) (oV ma) (.ref a)))) p=_:=ak
  have L1:=hR.l.but b1 hR.o
  generalize upd H p (.ins A.cX dx (rg (.int r) (.int (tt+w)) (.int ov) (.int un) (.int tn) (oV mi) (oV ma) (.ref a)))=H1 at b1 o1 L1 ⊢
  refine ⟨_,rfl,rdF o1 T.bT T.BZ (CP ..) ⟨_,rfl,mi,some t,rfl,fun H2 s2=>⟨_,rfl,p,_,dx,_,rfl,s2 _ _ o1,T.bT,T.BZ,(by show 8<1000;decide),?_⟩⟩⟩
  rw [CV]
  have b3:But p H2 (upd H2 p (.ins A.cX dx (rg (.int r) (.int (tt+w)) (.int ov) (.int un) (.int tn) (oV (lo2 mi (some t))) (oV ma) (.ref a)))):=But.upd
  have o3:(upd H2 p (.ins A.cX dx (rg (.int r) (.int (tt+w)) (.int ov) (.int un) (.int tn) (oV (lo2 mi (some t))) (oV ma) (.ref a)))) p=_:=ak
  have L3:=(L1.same s2).but b3 (s2 _ _ o1)
  have b03:But p H (upd H2 p (.ins A.cX dx (rg (.int r) (.int (tt+w)) (.int ov) (.int un) (.int tn) (oV (lo2 mi (some t))) (oV ma) (.ref a)))):=(b1.trans (s2.but p)).trans b3
  generalize upd H2 p (.ins A.cX dx (rg (.int r) (.int (tt+w)) (.int ov) (.int un) (.int tn) (oV (lo2 mi (some t))) (oV ma) (.ref a)))=H3 at b03 o3 L3 ⊢
  refine ⟨_,rfl,rdF o3 T.bT T.Ca (Ib ..) ⟨_,rfl,ma,some t,rfl,fun H4 s4=>⟨_,rfl,p,_,dx,_,rfl,s4 _ _ o3,T.bT,T.Ca,(by show 8<1000;decide),?_⟩⟩⟩
  rw [GP]
  have b5:But p H4 (upd H4 p (.ins A.cX dx (rg (.int r) (.int (tt+w)) (.int ov) (.int un) (.int tn) (oV (lo2 mi (some t))) (oV (hi2 ma (some t))) (.ref a)))):=But.upd
  have o5:(upd H4 p (.ins A.cX dx (rg (.int r) (.int (tt+w)) (.int ov) (.int un) (.int tn) (oV (lo2 mi (some t))) (oV (hi2 ma (some t))) (.ref a)))) p=_:=ak
  have L5:=(L3.same s4).but b5 (s4 _ _ o3)
  have b05:But p H (upd H4 p (.ins A.cX dx (rg (.int r) (.int (tt+w)) (.int ov) (.int un) (.int tn) (oV (lo2 mi (some t))) (oV (hi2 ma (some t))) (.ref a)))):=(b03.trans (s4.but p)).trans b5
  generalize upd H4 p (.ins A.cX dx (rg (.int r) (.int (tt+w)) (.int ov) (.int un) (.int tn) (oV (lo2 mi (some t))) (oV (hi2 ma (some t))) (.ref a)))=H5 at b05 o5 L5 ⊢
  refine ⟨_,rfl,p,dx,_,rfl,o5,rgN tb_g%,?_⟩
  refine ⟨_,rfl,rdF o5 T.bT T.zc (tW ..) ⟨_,rfl,_,rfl,a,bs,ls,t,w,rfl,L5,w0,w64,by lia,fun l hl=>by have:=h1 l hl;lia,fun g bs' H6 ng L6 s6 fr6=>?_⟩⟩
  refine ⟨p,dx,g,bs',_,r,tt+w,ov,un,tn,lo2 mi (some t),hi2 ma (some t),.ref a,rfl,s6 _ _ o5,L6,r2,r64,(h6.imp (fun z=>RG.Ks t _ _ z) fun z l m=>by have:=RG.Ks t (b:=(r-1).toNat) w.toNat ls (fun k hk=>by have:=z k hk;lia) l m;lia),?_,?_,fun g2 bs2 out tn' ov' un' H7 st ng2 L7 o7 b7 _ fr7=>?_⟩
  ·have:=RG.Nr t 64 w.toNat ls tb_g%
   lia
  ·rw [RG.Np]
   have:(2:Nat) ^ 400+2 ^ 64<2 ^ 500:=by decide
   lia
  ·have b07:But p H H7:=(b05.trans (s6.but p)).trans b7
   have n5:H5 g2=none:=s6.free ng2
   refine q g2 bs2 out tn' ov' un' H7 st ⟨o7,L7⟩ b07 (gR b05 n5 fun z=>by rw [z,o5] at n5;cases n5) fun c hc=>?_
   have h5:H5 c=none->c∈bs\/H c=none:=fun n=>.inr (gR b05 n fun z=>by rw [z,o5] at n;cases n)
   rcases fr7 c hc with z | z
   ·rcases fr6 c z with z | z
    ·exact .inl z
    ·exact h5 z
   ·exact h5 (s6.free z)
noncomputable def wf (aD aH eX eY:V):List (Str × V):=[("room",aD),("reach",aH),("clock",eX),("boxes",eY)]
theorem yF (aD aH eX eY:V):(wf aD aH eX eY).lookup ("room" : Str)=some aD:=by rfl
theorem tX (aD aH eX eY:V):(wf aD aH eX eY).lookup ("reach" : Str)=some aH:=by rfl
theorem jJ (aD aH eX eY:V):(wf aD aH eX eY).lookup ("clock" : Str)=some eX:=by rfl
theorem yc (aD aH eX eY:V):(wf aD aH eX eY).lookup ("boxes" : Str)=some eY:=by rfl
theorem anH (aD aH eX eY:V):bV "boxes" eY (bV "clock" eX (bV "reach" aH (bV "room" aD [])))=wf aD aH eX eY:=by
 unfold wf
 walk_at "rec"
theorem vg (aD aH eX eY y:V):bV "clock" y (wf aD aH eX eY)=wf aD aH y eY:=by
 unfold wf
 walk_at "rec"
theorem RZ (aD aH eX eY y:V):bV "boxes" y (wf aD aH eX eY)=wf aD aH eX y:=by
 unfold wf
 walk_at "rec"
theorem Og (aD aH eX eY:V) (vf:¬ m = "room") (CZ:¬ m = "reach") (ajQ:¬ m = "clock") (ajR:¬ m = "boxes"):(wf aD aH eX eY).lookup m=none:=by
 unfold wf
 rw [cH vf,cH CZ,cH ajQ,cH ajR]
 rfl
noncomputable abbrev Bp:=Addr × WN.Box
variable {ps:List Bp}
noncomputable def bt (b:WN.Box):HO:=.tup [.int b.f,.int b.l,.int b.s]
structure Bxs (H:Hp) (l:Addr) (ps:List Bp):Prop where
 l:H l=some (.lst (ps.map fun p=>V.ref p.1))
 t:∀ p∈ps,H p.1=some (bt p.2)
noncomputable def bx (ps:List Bp):List WN.Box:=ps.map (·.2)
theorem je (ps:List Bp):(bx ps).length=ps.length:=aZ _
theorem Bxs.same {l:Addr} (h:Bxs H l ps) (s:Same H H'):Bxs H' l ps:=⟨s _ _ h.l,fun p m=>s _ _ (h.t p m)⟩
theorem Bxs.but {l q C:Addr} {fs:List (Str × V)} (h:Bxs H l ps) (s:But q H H') (hq:H q=some (.ins C e fs)):Bxs H' l ps :=
 ⟨s _ _ h.l (iw h.l hq (by intro z;cases z)),fun p m=>s _ _ (h.t p m) (iw (h.t p m) hq (by intro z;cases z))⟩
theorem Ie {y:V} (h:(ps.map fun p=>V.ref p.1)[i]? = some y):∃ p,ps[i]? = some p/\y=V.ref p.1:=by
 rw [gZ] at h
 cases e:ps[i]? with
 | none=>rw [e] at h;cases h
 | some z=>rw [e] at h;exact ⟨z,rfl,(bW h).symm⟩
noncomputable def cZ (room edge:Int) (bs:List WN.Box):List WN.Box:=(WN.settled room (bs.filter fun b=>decide (edge<b.l)).reverse).reverse
noncomputable def ah8:Sp:=fun vs H Q _=>∃ (l:Addr) (room:Int) (ps:List Bp),vs=[.ref l,.int room]/\Bxs H l ps/\ps.length<=500/\0<=room/\room<=64 /\
 ∀ (l':Addr) (ps':List Bp) (H':Hp),H l'=none->bx ps'=(WN.settled room (bx ps).reverse).reverse->Bxs H' l' ps'->Same H H'->Q (.ref l') H'
noncomputable def Vm:Option Bp->V
 | none=>.non
 | some h=>.ref h.1
theorem anI {p:Bp} (h:ps.reverse[i]? = some p):(bx ps).reverse.drop i=p.2::(bx ps).reverse.drop (i+1):=by
 unfold bx
 rw [<- uh,<- Wh,<- Wh]
 have hi:i<ps.reverse.length:=(gH.mp h).1
 rw [adp hi,dW]
 rw [(gH.mp h).2]
theorem ok'9 (T:Tx K mg A):cB P w K mg base CX0 1 A.f'9 A.Vd ["boxes","room"] ah8:=by
 k_dat (T.F'9.ok,jm,s) "a"
 ·obtain ⟨l,room,ps,rfl,_⟩:=h
  rfl
 ·obtain ⟨l,room,ps,rfl,hb,h500,r0,r64,q⟩:=h
  refine ⟨_,(ao (psS 2 jm.nd (dR au))
   (ao (psS 3 jm.nd aB)
   (ao (psS 4 jm.nd lW)
   (ao (rR jB rfl (anj rfl T.Am (aj (pv 0) au)) (pgN 5 jm.nd) (aC (dO (aQ agI (pv 4) lW (aY _)) (aC (psS 4 jm.nd (pv 5))) (aC (dO (aQ aaE (aK lA (aK bA (dw (ixG (cN hr)) (pv 4) aB (fun _ _=>rfl)) (dw (ixG (cN hr)) (pv 5) aB (fun _ _=>rfl))) (pv 1)) (pv 3) (aY _)) (aC (psS 4 jm.nd (lY (aj (dw (ixG (cN hr)) (pv 5) aB (fun _ _=>rfl)) (aj (dw (ixG (cN hr)) (pv 4) aB (fun _ _=>rfl)) (aj (aK bA (dw (ixG (cN hr)) (pv 5) aB (fun _ _=>rfl)) (dw (ixG (cN hr)) (pv 4) aB (fun _ _=>rfl))) au)))))) (ao (bC (jG mL sY sZ d8 (pv 2) (aj (pv 4) au)))
   (ao (psS 3 jm.nd (aK bA (pv 3) (dw (ixG (cN hr)) (pv 4) aB (fun _ _=>rfl))))
   (aC (psS 4 jm.nd (pv 5))))))))))
   (ao (dO (aQ Hy (pv 4) lW (aY _)) (aC (bC (jG mL sY sZ d8 (pv 2) (aj (pv 4) au)))) cG)
   (aC (bQ (ZF T.ZR T.Am (aj (pv 2) au) rfl)))))))),?_⟩
  refine ⟨(by show 0<=sizeLine;decide),fun D hD=>?_⟩
  have sD:Same H (upd H D (.lst [])):=Same.new hD
  refine ⟨_,rfl,l,_,rfl,.inl (.inl (sD _ _ hb.l)),ajw (K:=K) (a:=l) (xs:=ps.map fun p=>V.ref p.1) (fun i σ H2=>∃ (xb:Option V) (S:Int) (ds:List Bp) (hand:Option Bp),σ=[some (.ref l),some (.int room),some (.ref D),some (.int S),some (Vm hand),xb]/\Same H H2/\Bxs H2 D ds/\ds.length<=i /\
    (hand=none->i=0/\ds=[]/\S=0)/\(∀ h,hand=some h->1<=i/\H2 h.1=some (bt h.2)/\bx ds++WN.settle room S h.2 ((bx ps).reverse.drop i)=WN.settled room (bx ps).reverse))
   ⟨none,0,[],none,rfl,sD,⟨ak,(fun p m=>nomatch m)⟩,bh _,fun _=>⟨rfl,rfl,rfl⟩,(fun h e=>nomatch e)⟩ (fun i σ H2 _ ⟨_,_,_,_,_,s,_⟩=>.inl (.inl (s _ _ hb.l))) ?_ ?_⟩
  ·rintro i y σ H2 hi ⟨xb,S,ds,hand,rfl,s2,hD2,hlen,hn,hs⟩
   rw [<- uh] at hi
   obtain ⟨p,hp,rfl⟩:=Ie hi
   have hip:i<ps.length:=by
    have:=(gH.mp hp).1
    rwa [yO] at this
   have pm:p∈ps:=vY.mp (List.mem_of_getElem? hp)
   have ht:=s2 _ _ (hb.t p pm)
   have hdrop:=anI hp
   cases hand with
   | none =>
    obtain ⟨rfl,rfl,rfl⟩:=hn rfl
    refine ⟨_,rfl,rfl,_,rfl,?_⟩
    rw [show decide (Vm none=V.non)=true from Va]
    refine oG ⟨_,rfl,_,0,[],some p,rfl,s2,hD2,dF _,(fun e=>nomatch e),fun h e=>?_⟩
    obtain rfl:=bW e
    refine ⟨bh _,ht,?_⟩
    rw [adO] at hdrop
    rw [hdrop];rfl
   | some h =>
    obtain ⟨i1,hht,heq⟩:=hs h rfl
    rw [hdrop,WN.iy] at heq
    refine ⟨_,rfl,rfl,_,rfl,?_⟩
    rw [show decide (Vm (some h)=V.non)=false from U9]
    refine tH ?_
    refine ⟨_,rfl,gB (.inl (.inl hht)) (v:=.int h.2.s) rfl ⟨_,rfl,gB (.inl (.inl ht)) (v:=.int p.2.s) rfl ⟨_,_,rfl,rfl,_,rfl,_,_,rfl,rfl,iV tb_g% tb_g%,_,rfl,_,_,rfl,rfl,_,rfl,fH (fun hc=>?_) (fun hc=>?_)⟩⟩⟩
    ·have hc:(h.2.s+p.2.s)*room<=S:=of_decide_eq_true hc
     rw [if_pos hc] at heq
     refine ⟨_,rfl,gB (.inl (.inl ht)) (v:=.int p.2.f) rfl ⟨_,rfl,gB (.inl (.inl hht)) (v:=.int h.2.l) rfl ⟨_,rfl,gB (.inl (.inl ht)) (v:=.int p.2.s) rfl ⟨_,rfl,gB (.inl (.inl hht)) (v:=.int h.2.s) rfl ⟨_,_,rfl,rfl,(by show 3<=sizeLine;decide),fun t1 ht1=>?_⟩⟩⟩⟩⟩
     have s3:Same H2 (upd H2 t1 (bt ⟨p.2.f,h.2.l,p.2.s+h.2.s⟩)):=Same.new ht1
     refine ⟨_,S,ds,some (t1,⟨p.2.f,h.2.l,p.2.s+h.2.s⟩),rfl,s2.trans s3,hD2.same s3,by lia,(fun e=>nomatch e),fun h' e=>?_⟩
     obtain rfl:=bW e
     refine ⟨by lia,ak,?_⟩
     rw [show p.2.s+h.2.s=h.2.s+p.2.s by lia]
     exact heq
    ·have hc:¬ (h.2.s+p.2.s)*room<=S:=fun z=>hc (decide_eq_true z)
     rw [if_neg hc] at heq
     refine ⟨_,rfl,.inl ⟨rfl,_,.inl (.inl hD2.l)⟩,_,rfl,D,_,_,rfl,rfl,hD2.l,bB (by rw [aZ];lia),?_⟩
     have nD:∀ a b,H2 a=some (bt b)->a≠D:=fun a b e=>iw e hD2.l (by intro z;cases z)
     have ht3:∀ L,(upd H2 D L) h.1=some (bt h.2):=fun L=>by rw [aA (nD _ _ hht)];exact hht
     refine ⟨_,rfl,_,rfl,gB (.inl (.inl (ht3 _))) (v:=.int h.2.s) rfl ⟨_,_,rfl,rfl,?_⟩⟩
     refine ⟨_,rfl,_,S+h.2.s,ds++[h],some p,rfl,fun b o e=>?_,⟨?_,fun z m=>?_⟩,by rw [cV];show ds.length+1<=i+1;lia,(fun e=>nomatch e),fun h' e=>?_⟩
     ·rw [aA (aq e hD)];exact s2 _ _ e
     ·rw [ak,cC];rfl
     ·walk_at "i"
      ·have:=hD2.t z m
       rw [aA (nD _ _ this)];exact this
      ·rw [dh.mp m];exact ht3 _
     ·obtain rfl:=bW e
      refine ⟨by lia,by rw [aA (nD _ _ ht)];exact ht,?_⟩
      unfold bx at heq ⊢
      rw [cC,jx]
      exact heq
  ·rintro σ H2 ⟨xb,S,ds,hand,rfl,s2,hD2,hlen,hn,hs⟩
   rw [aZ] at hlen hn hs
   cases hand with
   | none =>
    obtain ⟨h0,rfl,rfl⟩:=hn rfl
    have e0:ps=[]:=Gh.mp h0
    subst e0
    refine ⟨_,rfl,rfl,_,rfl,?_⟩
    rw [show decide (Vm none=V.non)=true from Va]
    refine tH ⟨_,rfl,D,_,rfl,.inl (.inl hD2.l),fun l' hl'=>?_⟩
    exact q l' [] _ (s2.free hl') rfl ⟨ak,(fun p m=>nomatch m)⟩ (s2.trans (Same.new hl'))
   | some h =>
    obtain ⟨i1,hht,heq⟩:=hs h rfl
    refine ⟨_,rfl,rfl,_,rfl,?_⟩
    rw [show decide (Vm (some h)=V.non)=false from U9]
    refine oG ⟨_,rfl,.inl ⟨rfl,_,.inl (.inl hD2.l)⟩,_,rfl,D,_,_,rfl,rfl,hD2.l,bB (by rw [aZ];lia),?_⟩
    have nD:∀ a b,H2 a=some (bt b)->a≠D:=fun a b e=>iw e hD2.l (by intro z;cases z)
    have eL:((ds.map fun p=>V.ref p.1)++[V.ref h.1])=(ds++[h]).map fun p=>V.ref p.1:=by rw [cC];rfl
    have s3:Same H (upd H2 D (.lst ((ds.map fun p=>V.ref p.1)++[V.ref h.1]))):=fun b o e=>by rw [aA (aq e hD)];exact s2 _ _ e
    have t3:∀ p∈ds++[h],(upd H2 D (.lst ((ds.map fun p=>V.ref p.1)++[V.ref h.1]))) p.1=some (bt p.2):=fun z m=>by
     walk_at "i"
     ·have:=hD2.t z m
      rw [aA (nD _ _ this)];exact this
     ·rw [dh.mp m,aA (nD _ _ hht)];exact hht
    refine ⟨_,rfl,D,_,rfl,.inl (.inl ak),fun l' hl'=>?_⟩
    refine q l' (ds++[h]).reverse _ (s3.free hl') ?_ ⟨?_,fun z m=>?_⟩ (s3.trans (Same.new hl'))
    ·rw [VR (by rw [yO,je];exact bh _),WN.uN] at heq
     rw [<- heq]
     unfold bx
     rw [uh,cC];rfl
    ·rw [ak,uh,<- eL];rfl
    ·rw [aA (aq (t3 z (vY.mp m)) hl')]
     exact t3 z (vY.mp m)
noncomputable def ajS (A:Ad):Sp:=fun vs H Q _=>∃ (p dx:Addr) (r k:Int),vs=[.ref p,.int r,.int k]/\H p=some (.ins A.iR dx []) /\
 ∀ (d:Addr) (H':Hp),H d=none->H' p=some (.ins A.iR dx (wf (.int r) (.int k) (.int 0) (.ref d)))->H' d=some (.lst [])->But p H H'->Q .non H'
theorem akP (T:Tx K mg A):cB P w K mg base CX0 1 A.SQ A.sE Q18 (ajS A):=by
 k_dat (T.F'10.ok,La,s) "a"
 ·obtain ⟨p,dx,r,k,rfl,_⟩:=h
  rfl
 ·obtain ⟨p,dx,r,k,rfl,hp,q⟩:=h
  refine ⟨_,(ao (aV (pv 0) (pv 1) rfl)
   (ao (aV (pv 0) (pv 2) rfl)
   (ao (aV (pv 0) aB rfl)
   (aC (aV (pv 0) (dR au) rfl))))),?_⟩
  refine ⟨_,rfl,_,rfl,p,_,dx,[],rfl,hp,T.dM,T.Cd,(by show 0<1000;decide),?_⟩
  refine ⟨_,rfl,_,rfl,p,_,dx,_,rfl,ak,T.dM,T.Ce,(by show 1<1000;decide),?_⟩
  k_dat (dx,ak,T.dM,T.oE,2) "b"
  rw [cU,cU]
  refine ⟨(by show 0<=sizeLine;decide),fun d hd=>?_⟩
  have npd:p≠d:=fun z=>by rw [<- z,ak] at hd;cases hd
  rw [aA (aU npd)] at hd
  refine ⟨_,rfl,p,_,dx,_,rfl,(by rw [aA npd];exact ak),T.dM,T.Cg,(by show 3<1000;decide),?_⟩
  refine q d _ hd (Et ak (by rw [anH])) (by rw [aA (aU npd),ak]) fun b o e hb=>?_
  rw [aA hb,aA (aq e hd),aA hb]
  exact e
/-- a Window -/
structure Wn (A:Ad) (H:Hp) (p dx l:Addr) (r k c:Int) (ps:List Bp):Prop where
 o:H p=some (.ins A.iR dx (wf (.int r) (.int k) (.int c) (.ref l)))
 b:Bxs H l ps
theorem Wn.same {l:Addr} {r k c:Int} (h:Wn A H p dx l r k c ps) (s:Same H H'):Wn A H' p dx l r k c ps:=⟨s _ _ h.o,h.b.same s⟩
theorem Wn.but {l q C:Addr} {fs:List (Str × V)} {r k c:Int} (h:Wn A H p dx l r k c ps) (s:But q H H') (hq:H q=some (.ins C e fs)) (n:p≠q):Wn A H' p dx l r k c ps:=⟨s _ _ h.o n,h.b.but s hq⟩
noncomputable def ac3 (A:Ad):Sp:=fun vs H Q _=>∃ (p dx l l0:Addr) (r k c:Int) (ps:List Bp),vs=[.ref p,.ref l]/\H p=some (.ins A.iR dx (wf (.int r) (.int k) (.int c) (.ref l0)))/\Bxs H l ps/\ps.length<=500/\0<=r/\r<=64 /\
 ∀ (l':Addr) (ps':List Bp) (H':Hp),bx ps'=cZ r (c-k) (bx ps)->Wn A H' p dx l' r k c ps'->But p H H'->H l'=none->Q .non H'
theorem ah9 (T:Tx K mg A):cB P w K mg base CX0 2 A.Yt A.nH ["self","boxes"] (ac3 A):=by
 k_dat (T.F'11.ok,mD,s) "a"
 ·obtain ⟨p,dx,l,l0,r,k,c,ps,rfl,_⟩:=h
  rfl
 ·obtain ⟨p,dx,l,l0,r,k,c,ps,rfl,hp,hb,h500,r0,r64,q⟩:=h
  refine ⟨_,(ao (agE (i:=2) mD.nd rfl (Or.inr rfl) (aK uF (pf 0) (pf 0)))
   (ao (uK (i:=3) (cl:=[("edge",s.heap.objs.size+1)]) (N:=["box","edge"]) (caps:=[2]) (tt:=(agJ (tOp _ (tOp (Rh K) _ _) _))) (te:=_) mD.nd rfl (Or.inl rfl) rfl (by with_unfolding_all rfl) tb_g% rfl tb_g% ⟨rfl,trivial⟩ (xr (by with_unfolding_all rfl)) tb_g% rfl rfl rfl (gQ.at (k:=1) (show gQ _ _ _ _ 1 [2] from ⟨⟨"edge",_,rfl,rfl,.inl rfl,.inl rfl,rfl⟩,trivial⟩)) (mH (pv 1)) (fun _ _ _ _=>(HN (aQ Gn (dw (ixG (by exact cN hr)) (pv 0) aB (fun _ _=>rfl)) (pv 1) (aY _)))) (fun _ _ _ _=>(pv 0)))
   (aC (aV (pv 0) (aF (ok'9 T) tb_g% T.F'9 aL (aj (pv 3) (aj (pf 0) au))) rfl)))),?_⟩
  refine ⟨_,rfl,rdF hp T.dM T.oE (jJ _ _ _ _) ⟨_,rfl,rdF hp T.dM T.Ce (tX _ _ _ _) ⟨_,_,rfl,rfl,?_⟩⟩⟩
  refine ⟨_,rfl,l,rfl,⟨_,.inl (.inl hb.l)⟩,fun D hD=>?_⟩
  refine Gx (K:=K) (a:=l) (xs:=ps.map fun p=>V.ref p.1) (fun i ys H2=>ys=((ps.take i).filter fun p=>decide (c-k<p.2.l)).map (fun p=>V.ref p.1)/\H2=upd H D (.lst ys)) ⟨by simp,rfl⟩ ?_ ?_ ?_ ?_ ?_
  ·rintro i ys H2 hi ⟨rfl,rfl⟩
   refine ⟨.inl (.inl ((Same.new hD) _ _ hb.l)),ak,bB ?_⟩
   rw [aZ]
   have:=vX (fun p:Bp=>decide (c-k<p.2.l)) (ps.take i)
   rw [jy] at this
   lia
  ·rintro i ys H2 x hx ⟨rfl,rfl⟩
   obtain ⟨z,hz,rfl⟩:=Ie hx
   have ht:=(Same.new (o:=.lst (((ps.take i).filter fun p=>decide (c-k<p.2.l)).map (fun p=>V.ref p.1))) hD) _ _ (hb.t z (List.mem_of_getElem? hz))
   refine ⟨_,rfl,gB (.inl (.inl ht)) (v:=.int z.2.l) rfl ⟨_,rfl,_,_,rfl,rfl,_,rfl,fH (fun hc=>?_) (fun hc=>?_)⟩⟩
   ·have hc:c-k<z.2.l:=of_decide_eq_true hc
    refine ⟨_,rfl,ak,?_,by rw [cU]⟩
    rw [nZ,hz,Aw,cC]
    show _=_++(([z]:List Bp).filter fun p=>decide (c-k<p.2.l)).map (fun p=>V.ref p.1)
    rw [VP (by simpa using hc)];rfl
   ·have hc:¬ c-k<z.2.l:=fun y=>hc (decide_eq_true y)
    refine ⟨ak,?_,rfl⟩
    rw [nZ,hz,Aw,cC]
    show _=_++(([z]:List Bp).filter fun p=>decide (c-k<p.2.l)).map (fun p=>V.ref p.1)
    rw [Oo (by simpa using hc)];simp
  ·rintro ys H2 ⟨rfl,rfl⟩
   rw [aZ,qu]
   have sD:Same H (upd H D (.lst ((ps.filter fun p=>decide (c-k<p.2.l)).map (fun p=>V.ref p.1)))):=Same.new hD
   have bD:Bxs (upd H D (.lst ((ps.filter fun p=>decide (c-k<p.2.l)).map (fun p=>V.ref p.1)))) D (ps.filter fun p=>decide (c-k<p.2.l)):=⟨ak,fun z m=>sD _ _ (hb.t z (rH.mp m).1)⟩
   generalize upd H D (.lst ((ps.filter fun p=>decide (c-k<p.2.l)).map (fun p=>V.ref p.1)))=H3 at sD bD ⊢
   have hlen:=vX (fun p:Bp=>decide (c-k<p.2.l)) ps
   refine ⟨_,rfl,_,rfl,rdF (sD _ _ hp) T.dM T.Cd (yF _ _ _ _) ?_⟩
   refine ⟨D,r,_,rfl,bD,by lia,r0,r64,fun l' ps' H4 hl' e' b' s4=>?_⟩
   have hp4:=s4 _ _ (sD _ _ hp)
   k_dat (dx,hp4,T.dM,T.Cg,4) "b"
   rw [RZ]
   have npl:∀ b o,H4 b=some o->(∀ C d fs,o ≠ .ins C d fs)->b≠p:=fun b o e n z=>by rw [z,hp4] at e;exact n _ _ _ (bW e).symm
   refine q l' ps' _ ?_ ⟨ak,⟨by rw [aA (npl _ _ b'.l (by intro _ _ _ z;cases z))];exact b'.l,fun z m=>by rw [aA (npl _ _ (b'.t z m) (by intro _ _ _ z;cases z))];exact b'.t z m⟩⟩ (fun b o e n=>by rw [aA n];exact s4 _ _ (sD _ _ e)) (sD.free hl')
   rw [e']
   unfold cZ bx
   rw [List.filter_map];rfl
  ·exact fun σ H R R' hr h=>fj (jj (HY (bU 0) (mC _)) (bU 1)) σ H R R' hr h
  ·exact bU 0
noncomputable def anJ (A:Ad):Sp:=fun vs H Q _=>∃ (p dx l:Addr) (r k c v:Int) (ps:List Bp),vs=[.ref p,.int v]/\Wn A H p dx l r k c ps/\ps.length<=400/\0<=r/\r<=64 /\
 ∀ (l':Addr) (ps':List Bp) (H':Hp),bx ps'=cZ r (c+1-k) (bx ps++[⟨c+1,c+1,v⟩])->Wn A H' p dx l' r k (c+1) ps'->But p H H'->H l'=none->Q .non H'
theorem ok'12 (T:Tx K mg A):cB P w K mg base CX0 5 A.Yu A.uR Q19 (anJ A):=by
 k_dat (T.F'12.ok,Mp,s) "a"
 ·obtain ⟨p,dx,l,r,k,c,v,ps,rfl,_⟩:=h
  rfl
 ·obtain ⟨p,dx,l,r,k,c,v,ps,rfl,hw,h400,r0,r64,q⟩:=h
  refine ⟨_,(ao (aV (pv 0) (aK bA (pf 0) aB) rfl)
   (aC (bC (cI (pv 0) T.dM T.nT (ah9 T) tb_g% T.b'11 .nil aL (aj (aK wX (pf 0) (dR (aj (lY (aj (pf 0) (aj (pf 0) (aj (pv 1) au)))) au))) au))))),?_⟩
  refine ⟨_,rfl,rdF hw.o T.dM T.oE (jJ _ _ _ _) ⟨_,_,rfl,rfl,_,rfl,p,_,dx,_,rfl,hw.o,T.dM,T.oE,(by show 4<1000;decide),?_⟩⟩
  rw [vg]
  have b1:But p H (upd H p (.ins A.iR dx (wf (.int r) (.int k) (.int (c+1)) (.ref l)))):=But.upd
  have w1:(upd H p (.ins A.iR dx (wf (.int r) (.int k) (.int (c+1)) (.ref l)))) p=some (.ins A.iR dx (wf (.int r) (.int k) (.int (c+1)) (.ref l))):=ak
  have x1:=hw.b.but b1 hw.o
  generalize upd H p (.ins A.iR dx (wf (.int r) (.int k) (.int (c+1)) (.ref l)))=H1 at b1 w1 x1 ⊢
  refine ⟨_,rfl,p,dx,_,rfl,w1,Og _ _ _ _ tb_g% tb_g% tb_g% tb_g%,?_⟩
  refine ⟨_,rfl,rdF w1 T.dM T.Cg (yc _ _ _ _) ?_⟩
  refine ⟨_,rfl,rdF w1 T.dM T.oE (jJ _ _ _ _) ⟨_,rfl,rdF w1 T.dM T.oE (jJ _ _ _ _) ⟨_,rfl,(by show 3<=sizeLine;decide),fun t ht=>⟨(by show 1<=sizeLine;decide),fun l1 hl1=>?_⟩⟩⟩⟩
  have s2:Same H1 (upd H1 t (bt ⟨c+1,c+1,v⟩)):=Same.new ht
  have t2:(upd H1 t (bt ⟨c+1,c+1,v⟩)) t=some (bt ⟨c+1,c+1,v⟩):=ak
  show rCat _ _ (upd (upd H1 t (bt ⟨c+1,c+1,v⟩)) l1 (.lst [.ref t])) _
  have hl1':(upd H1 t (bt ⟨c+1,c+1,v⟩)) l1=none:=hl1
  generalize upd H1 t (bt ⟨c+1,c+1,v⟩)=H2 at s2 t2 hl1' ⊢
  have s3:Same H2 (upd H2 l1 (.lst [.ref t])):=Same.new hl1'
  have t3:(upd H2 l1 (.lst [.ref t])) l1=some (.lst [.ref t]):=ak
  generalize upd H2 l1 (.lst [.ref t])=H3 at s3 t3 ⊢
  refine ⟨l,l1,_,_,rfl,rfl,s3 _ _ (s2 _ _ x1.l),t3,ou (bB (by rw [aZ];show ps.length+1<=1000;lia)),fun l2 hl2=>?_⟩
  have s4:Same H3 (upd H3 l2 (.lst ((ps.map fun p=>V.ref p.1)++[.ref t]))):=Same.new hl2
  have s14:Same H1 (upd H3 l2 (.lst ((ps.map fun p=>V.ref p.1)++[.ref t]))):=s2.trans (s3.trans s4)
  have x4:Bxs (upd H3 l2 (.lst ((ps.map fun p=>V.ref p.1)++[.ref t]))) l2 (ps++[(t,⟨c+1,c+1,v⟩)]):=by
   refine ⟨by rw [ak,cC];rfl,fun z m=>?_⟩
   walk_at "i"
   ·exact s14 _ _ (x1.t z m)
   ·rw [dh.mp m];exact s4 _ _ (s3 _ _ t2)
  generalize upd H3 l2 (.lst ((ps.map fun p=>V.ref p.1)++[.ref t]))=H4 at s4 s14 x4 ⊢
  refine ⟨p,dx,l2,l,r,k,c+1,_,rfl,s14 _ _ w1,x4,by rw [cV];show ps.length+1<=500;lia,r0,r64,fun l' ps' H5 e' w5 b5 n5=>?_⟩
  have bb:But p H H5:=fun b o e n=>b5 b o (s14 _ _ (b1 b o e n)) n
  refine q l' ps' H5 (by rw [e'];unfold bx;rw [cC];rfl) w5 bb ?_
  exact gR b1 (s14.free n5) (fun z=>by rw [z,s14 _ _ w1] at n5;cases n5)
noncomputable def ajT (A:Ad):Sp:=fun vs H Q _=>∃ (p dx l:Addr) (r k c v:Int) (ps:List Bp),vs=[.ref p,.int v]/\Wn A H p dx l r k c ps/\ps.length<=400/\0<=r/\r<=64 /\
 ∀ (l':Addr) (ps':List Bp) (H':Hp),bx ps'=cZ r (c+v-k) (bx ps)->Wn A H' p dx l' r k (c+v) ps'->But p H H'->H l'=none->Q .non H'
theorem akQ (T:Tx K mg A):cB P w K mg base CX0 5 A.Yv A.sO Q12 (ajT A):=by
 k_dat (T.F'13.ok,Lb,s) "a"
 ·obtain ⟨p,dx,l,r,k,c,v,ps,rfl,_⟩:=h
  rfl
 ·obtain ⟨p,dx,l,r,k,c,v,ps,rfl,hw,h400,r0,r64,q⟩:=h
  refine ⟨_,(ao (aV (pv 0) (aK bA (pf 0) (pv 1)) rfl)
   (aC (bC (cI (pv 0) T.dM T.nT (ah9 T) tb_g% T.b'11 .nil aL (aj (pf 0) au))))),?_⟩
  refine ⟨_,rfl,rdF hw.o T.dM T.oE (jJ _ _ _ _) ⟨_,rfl,_,_,rfl,rfl,_,rfl,p,_,dx,_,rfl,hw.o,T.dM,T.oE,(by show 4<1000;decide),?_⟩⟩
  rw [vg]
  have b1:But p H (upd H p (.ins A.iR dx (wf (.int r) (.int k) (.int (c+v)) (.ref l)))):=But.upd
  have w1:(upd H p (.ins A.iR dx (wf (.int r) (.int k) (.int (c+v)) (.ref l)))) p=some (.ins A.iR dx (wf (.int r) (.int k) (.int (c+v)) (.ref l))):=ak
  have x1:=hw.b.but b1 hw.o
  generalize upd H p (.ins A.iR dx (wf (.int r) (.int k) (.int (c+v)) (.ref l)))=H1 at b1 w1 x1 ⊢
  refine ⟨_,rfl,p,dx,_,rfl,w1,Og _ _ _ _ tb_g% tb_g% tb_g% tb_g%,?_⟩
  refine ⟨_,rfl,rdF w1 T.dM T.Cg (yc _ _ _ _) ?_⟩
  refine ⟨p,dx,l,l,r,k,c+v,ps,rfl,w1,x1,by lia,r0,r64,fun l' ps' H5 e' w5 b5 n5=>?_⟩
  exact q l' ps' H5 e' w5 (fun b o e n=>b5 b o (b1 b o e n) n) (gR b1 n5 (fun z=>by rw [z,w1] at n5;cases n5))
open MK
noncomputable def aia:Sp:=fun vs H Q _=>∃ n:Int,vs=[.int n]/\Q (.int (n*770093176312745717 % 1152921504606846976)) H
theorem ok'14 (T:Tx K mg A):cB P w K mg base CX0 1 A.abB A.Ve Q10 aia:=by
 k_dat (T.F'14.ok,ac1,s) "a"
 ·obtain ⟨n,rfl,_⟩:=h
  rfl
 ·obtain ⟨n,rfl,q⟩:=h
  obtain ⟨_,anK,anL⟩:=T.anx
  obtain ⟨_,aib,aic⟩:=T.ah4
  refine ⟨_,(aC (bQ (aK iU (aK lA (pv 0) (fW (v:=.int 770093176312745717) rfl aib aic)) (fW (v:=.int 1152921504606846976) rfl anK anL)))),?_⟩
  exact ⟨_,rfl,_,_,rfl,rfl,iV (by decide) (by decide),_,_,rfl,rfl,(by show (0:Int)<1152921504606846976;decide),q⟩
noncomputable def Aq (r:Int) (h:Nat):Prop:=(r=0/\h=60)\/LC r h
theorem Aq.uniq {r:Int} (a:Aq r h) (b:Aq r k):h=k:=by
 rcases a with ⟨a,rfl⟩ | a
 ·rcases b with ⟨_,rfl⟩ | b
  ·rfl
  ·exact absurd a b.ne
 ·rcases b with ⟨b,rfl⟩ | b
  ·exact absurd b a.ne
  ·exact a.uniq b
noncomputable def anM:Sp:=fun vs H Q _=>∃ n:Int,vs=[.int n]/\∀ h:Nat,Aq (n*770093176312745717 % 1152921504606846976) h->Q (.int h) H
/-- what is left to halve -/
noncomputable def restOf (σ:St) (_:Hp):Nat:=match σ with
 | [_,some (.int x),_]=>x.toNat
 | _=>0
theorem akR (T:Tx K mg A):cB P w K mg base CX0 2 A.abC A.ahW Q10 anM:=by
 k_dat (T.F'15.ok,Cz,s) "a"
 ·obtain ⟨n,rfl,_⟩:=h
  rfl
 ·obtain ⟨n,rfl,q⟩:=h
  obtain ⟨_,Hq,Hr⟩:=T.Hg
  refine ⟨_,(ao (psS 1 Cz.nd (aF (ok'14 T) tb_g% T.F'14 aL (aj (pv 0) au)))
   (ao (dO (aQ lN (pv 1) aB (aY _)) (aC (bQ (fW (v:=.int 60) rfl Hq Hr))) cG)
   (ao (psS 2 Cz.nd aB)
   (ao (jD jB (aQ lN (aK iU (pv 1) aB) aB (aY _)) (ao (psS 1 Cz.nd (aK Q5 (pv 1) aB))
   (aC (psS 2 Cz.nd (aK bA (pv 2) aB)))))
   (aC (bQ (pv 2))))))),?_⟩
  refine ⟨_,rfl,n,rfl,?_⟩
  have z0:=El (n*770093176312745717) (show (1152921504606846976:Int)≠0 by decide)
  have z1:=Ek (n*770093176312745717) (show (0:Int)<1152921504606846976 by decide)
  generalize n*770093176312745717 % 1152921504606846976=r at q z0 z1
  refine ⟨_,rfl,rfl,_,rfl,fH (fun h=>?_) (fun h=>?_)⟩
  ·have e:V.int r=V.int 0:=of_decide_eq_true h
   exact q 60 (.inl ⟨V.int.inj e,rfl⟩)
  ·have ne:r≠0:=fun z=>h (decide_eq_true (congrArg V.int z))
   refine jE (fun σ H'=>∃ (x:Int) (i:Nat),σ=[some (.int n),some (.int x),some (.int (i:Int))]/\To r x i/\H'=H) restOf ⟨r,0,rfl,⟨by simp,ne⟩,rfl⟩ ?_
    (fun σ H Q Q' hq ⟨v,e,i,j,e1,e2,h,sc,k,e3,q⟩=>⟨v,e,i,j,e1,e2,h,sc,k,e3,hq _ _ q⟩)
   rintro σ H' ⟨x,i,rfl,ht,rfl⟩
   refine ⟨_,rfl,_,_,rfl,rfl,(by show (0:Int)<2;decide),rfl,_,rfl,fH (fun h=>?_) (fun h=>?_)⟩
   ·have e:x % 2=0:=V.int.inj (of_decide_eq_true h)
    have hx:=ht.lt tb_g% z1
    refine ⟨_,rfl,_,_,rfl,rfl,⟨by decide,by decide⟩,_,rfl,_,_,rfl,rfl,⟨x / 2,i+1,?_,ht.step e,rfl⟩,?_⟩
    ·rw [show ((i+1:Nat):Int)=(i:Int)+1 by lia];rfl
    ·show (x / 2).toNat<x.toNat
     lia
   ·have e:¬ x % 2=0:=fun z=>h (decide_eq_true (congrArg V.int z))
    exact ⟨_,rfl,q i (.inr (ht.stop e))⟩
noncomputable def df (aD bY dU fU:V):List (Str × V):=[("room",aD),("arrivals",bY),("level",dU),("kept",fU)]
theorem yG (aD bY dU fU:V):(df aD bY dU fU).lookup ("room" : Str)=some aD:=by rfl
theorem rC (aD bY dU fU:V):(df aD bY dU fU).lookup ("arrivals" : Str)=some bY:=by rfl
theorem m8 (aD bY dU fU:V):(df aD bY dU fU).lookup ("level" : Str)=some dU:=by rfl
theorem Dc (aD bY dU fU:V):(df aD bY dU fU).lookup ("kept" : Str)=some fU:=by rfl
theorem anN (aD bY dU fU:V):bV "kept" fU (bV "level" dU (bV "arrivals" bY (bV "room" aD [])))=df aD bY dU fU:=by
 unfold df
 walk_at "rec"
theorem vM (aD bY dU fU y:V):bV "arrivals" y (df aD bY dU fU)=df aD y dU fU:=by
 unfold df
 walk_at "rec"
theorem Dd (aD bY dU fU y:V):bV "level" y (df aD bY dU fU)=df aD bY y fU:=by
 unfold df
 walk_at "rec"
theorem Vn (aD bY dU fU y:V):bV "kept" y (df aD bY dU fU)=df aD bY dU y:=by
 unfold df
 walk_at "rec"
theorem aie (aD bY dU fU:V) (vf:¬ m = "room") (ZW:¬ m = "arrivals") (ajU:¬ m = "level") (anO:¬ m = "kept"):(df aD bY dU fU).lookup m=none:=by
 unfold df
 rw [cH vf,cH ZW,cH ajU,cH anO]
 rfl
noncomputable def ajV (A:Ad):Sp:=fun vs H Q _=>∃ (p dx:Addr) (r:Int),vs=[.ref p,.int r]/\H p=some (.ins A.iD dx []) /\
 ∀ (d:Addr) (H':Hp),H d=none->H' p=some (.ins A.iD dx (df (.int r) (.int 0) (.int 0) (.ref d)))->H' d=some (.lst [])->But p H H'->Q .non H'
theorem akS (T:Tx K mg A):cB P w K mg base CX0 1 A.SX A.nJ Q3 (ajV A):=by
 k_dat (T.F'16.ok,FN,s) "a"
 ·obtain ⟨p,dx,r,rfl,_⟩:=h
  rfl
 ·obtain ⟨p,dx,r,rfl,hp,q⟩:=h
  refine ⟨_,(ao (aV (pv 0) (pv 1) rfl)
   (ao (aV (pv 0) aB rfl)
   (ao (aV (pv 0) aB rfl)
   (aC (aV (pv 0) (dR au) rfl))))),?_⟩
  refine ⟨_,rfl,_,rfl,p,_,dx,[],rfl,hp,T.eV,T.Ci,(by show 0<1000;decide),?_⟩
  k_dat (dx,ak,T.eV,T.Cj,1) "b"
  k_dat (dx,ak,T.eV,T.vH,2) "b"
  rw [cU,cU]
  refine ⟨(by show 0<=sizeLine;decide),fun d hd=>?_⟩
  have npd:p≠d:=fun z=>by rw [<- z,ak] at hd;cases hd
  rw [aA (aU npd)] at hd
  refine ⟨_,rfl,p,_,dx,_,rfl,(by rw [aA npd];exact ak),T.eV,T.Ck,(by show 3<1000;decide),?_⟩
  refine q d _ hd (Et ak (by rw [anN])) (by rw [aA (aU npd),ak]) fun b o e hb=>?_
  rw [aA hb,aA (aq e hd),aA hb]
  exact e
theorem ajW {n:Int} (m:Aq (n*770093176312745717 % 1152921504606846976) h):h<=60:=by
 rcases m with ⟨_,rfl⟩ | m
 ·exact bh _
 ·have:=m.lt (El _ (by decide)) (Ek _ (by decide))
  lia
theorem abd:∀ (n:Nat) (r:Int),r.natAbs<=n->r≠0->∃ h,LC r h
 | 0,r,h,h0=>absurd (show r=0 by lia) h0
 | n+1,r,h,h0=>by
  by_cases e:r % 2=1
  ·exact ⟨0,r,by simp,e⟩
  ·obtain ⟨k,m,e1,e2⟩:=abd n (r / 2) tb_g% tb_g%
   refine ⟨k+1,m,?_,e2⟩
   rw [lM,<- zV,<- e1]
   lia
theorem R4 (k:Int):∃ h,Aq (k*770093176312745717 % 1152921504606846976) h:=by
 by_cases e:k*770093176312745717 % 1152921504606846976=0
 ·exact ⟨60,.inl ⟨e,rfl⟩⟩
 ·obtain ⟨h,hh⟩:=abd _ _ (bh _) e
  exact ⟨h,.inr hh⟩
/-- the mark of k -/
noncomputable def mkOf (k:Int):Int:=(afH (R4 k):Nat)
theorem mk_eq {k:Int} (m:Aq (k*770093176312745717 % 1152921504606846976) h):(h:Int)=mkOf k:=by
 rw [m.uniq (afG (R4 k))];rfl
theorem mk_le (k:Int):mkOf k<=60:=by
 obtain ⟨h,m⟩:=R4 k
 have:=ajW m
 rw [<- mk_eq m];lia
noncomputable def up (v:Int) (ks:List Int):List Int:=ks.filter fun z=>decide (v<=mkOf z)
theorem abe {w:Int} (h:v<=w) (ks:List Int):up w (up v ks)=up w ks:=by
 unfold up
 rw [List.filter_filter]
 apply List.filter_congr
 intro x _
 by_cases e:w<=mkOf x
 ·rw [decide_eq_true e,decide_eq_true (show v<=mkOf x by lia)];rfl
 ·rw [decide_eq_false e];rfl
theorem anP (h:∀ z∈ks,v<=mkOf z):up v ks=ks:=by
 unfold up
 rw [V4]
 exact fun z hz=>decide_eq_true (h z hz)
theorem abf (h:60<v) (ks:List Int):up v ks=[]:=by
 unfold up
 rw [Oq]
 intro z _ e
 have:=of_decide_eq_true e
 have:=mk_le z
 lia
theorem qe {z:Int} :z∈up v ks↔z∈ks/\v<=mkOf z:=by
 unfold up;rw [rH,decide_eq_true_iff]
/-- the sorted one -/
noncomputable def srt (ns:List Int):List Int:=ns.mergeSort fun a b=>decide (a<=b)
theorem mq:∀ {xs ys:List Int},xs.Perm ys->xs.Pairwise (· <= ·)->ys.Pairwise (· <= ·)->xs=ys
 | [],ys,p,_,_=>by rw [adQ.mp p]
 | x::xs,[],p,_,_=>absurd p (by simp)
 | x::xs,y::ys,p,h1,h2=>by
  have a1:=lK.mp h1
  have a2:=lK.mp h2
  have e:x=y:=by
   have m1:x∈y::ys:=p.mem_iff.mp eN
   have m2:y∈x::xs:=p.mem_iff.mpr eN
   rcases cP.mp m1 with z | z
   ·exact z
   ·rcases cP.mp m2 with z' | z'
    ·exact z'.symm
    ·exact aeW (a1.1 y z') (a2.1 x z)
  subst e
  rw [mq (afE p) a1.2 a2.2]
theorem iH (ns:List Int):(srt ns).Perm ns:=Ov _ _
theorem uM (ns:List Int):(srt ns).Pairwise (· <= ·):=by
 have:=VN (le:=fun a b:Int=>decide (a<=b)) (fun a b c h1 h2=>by simp only [decide_eq_true_eq] at *; lia) (fun a b=>by simp only [Xw,decide_eq_true_eq];lia) ns
 exact this.imp fun h=>of_decide_eq_true h
theorem rZ {ms:List Int} (p:ms.Perm ns) (h:ms.Pairwise (· <= ·)):ms=srt ns:=mq (p.trans (iH ns).symm) h (uM ns)
theorem Oh {ms:List Int} (p:ms.Perm ns):srt ms=srt ns:=mq ((iH ms).trans (p.trans (iH ns).symm)) (uM _) (uM _)
theorem ZX (v:Int) (ns:List Int):up v (srt ns)=srt (up v ns):=rZ ((iH ns).filter _) ((uM ns).filter _)
theorem fX (ns:List Int):(srt ns).length=ns.length:=(iH ns).length_eq
theorem mJ {z:Int} :z∈srt ns↔z∈ns:=(iH ns).mem_iff
noncomputable def ac4:Sp:=fun vs H Q _=>∃ (l:Addr) (v:Int) (ks:List Int),vs=[.ref l,.int v]/\H l=some (.lst (ks.map V.int))/\ks.length<=900 /\
 ∀ (l':Addr) (H':Hp),H l'=none->H' l'=some (.lst ((up v ks).map V.int))->Same H H'->Q (.ref l') H'
theorem akT (T:Tx K mg A):cB P w K mg base CX0 3 A.abD A.KN Q20 ac4:=by
 k_dat (T.F'17.ok,Vl,s) "a"
 ·obtain ⟨l,v,ks,rfl,_⟩:=h
  rfl
 ·obtain ⟨l,v,ks,rfl,hl,h500,q⟩:=h
  refine ⟨_,(aC (bQ (Rw (cl:=[("level",s.heap.objs.size+1)]) (N:=["thing","level"]) (caps:=[1]) (tt:=_) (te:=_) rfl (by with_unfolding_all rfl) tb_g% rfl tb_g% ⟨rfl,trivial⟩ (xr (by with_unfolding_all rfl)) tb_g% rfl rfl rfl (gQ.at (k:=1) (show gQ _ _ _ _ 1 [1] from ⟨⟨"level",_,rfl,rfl,.inl rfl,.inl rfl,rfl⟩,trivial⟩)) (mH (pv 0)) (fun _ _ _ _=>(HN (aQ aaF (aF (akR T) (by exact hr.mono (by decide)) T.F'15 aL (aj (pv 0) au)) (pv 1) (aY _)))) (fun _ _ _ _=>(pv 0))))),?_⟩
  refine ⟨_,rfl,l,rfl,⟨_,.inl (.inl hl)⟩,fun D hD=>?_⟩
  refine Gx (K:=K) (a:=l) (xs:=ks.map V.int) (fun i ys H2=>ys=(up v (ks.take i)).map V.int/\H2=upd H D (.lst ys)) ⟨rfl,rfl⟩ ?_ ?_ ?_ ?_ ?_
  ·rintro i ys H2 hi ⟨rfl,rfl⟩
   refine ⟨.inl (.inl ((Same.new hD) _ _ hl)),ak,bB ?_⟩
   have:(up v (ks.take i)).length<=(ks.take i).length:=vX _ _
   rw [jy] at this
   rw [aZ]
   lia
  ·rintro i ys H2 x hx ⟨rfl,rfl⟩
   obtain ⟨z,hz,rfl⟩:=int_at hx
   refine ⟨_,rfl,z,rfl,fun h hh=>⟨_,rfl,_,_,rfl,rfl,_,rfl,fH (fun hc=>?_) (fun hc=>?_)⟩⟩
   ·have hc:v<=(h:Int):=of_decide_eq_true hc
    rw [mk_eq hh] at hc
    refine ⟨_,rfl,ak,?_,by rw [cU]⟩
    have e:up v (ks.take (i+1))=up v (ks.take i)++[z]:=by
     rw [nZ,hz]
     unfold up
     rw [Aw]
     simp [hc]
    rw [e,cC];rfl
   ·have hc:¬ v<=(h:Int):=fun y=>hc (decide_eq_true y)
    rw [mk_eq hh] at hc
    refine ⟨ak,?_,rfl⟩
    have e:up v (ks.take (i+1))=up v (ks.take i):=by
     rw [nZ,hz]
     unfold up
     rw [Aw]
     simp [hc]
    rw [e]
  ·rintro ys H2 ⟨rfl,rfl⟩
   rw [aZ,qu]
   exact q D _ hD ak (Same.new hD)
  ·exact fun σ H R R' hr ⟨v,e,n,en,q⟩=>⟨v,e,n,en,fun h m=>by
    obtain ⟨u,eu,i,j,ei,ej,k,ek,r⟩:=q h m
    exact ⟨u,eu,i,j,ei,ej,k,ek,hr _ _ r⟩⟩
  ·exact bU 0
/-- a Distinct -/
structure Dn (A:Ad) (H:Hp) (p dx l:Addr) (r n v:Int) (ks:List Int):Prop where
 o:H p=some (.ins A.iD dx (df (.int r) (.int n) (.int v) (.ref l)))
 l:H l=some (.lst (ks.map V.int))
theorem Dn.same {l:Addr} {r n:Int} (h:Dn A H p dx l r n v ks) (s:Same H H'):Dn A H' p dx l r n v ks:=⟨s _ _ h.o,s _ _ h.l⟩
theorem Dn.but {l q C:Addr} {fs:List (Str × V)} {r n:Int} (h:Dn A H p dx l r n v ks) (s:But q H H') (hq:H q=some (.ins C e fs)) (m:p≠q):Dn A H' p dx l r n v ks:=⟨s _ _ h.o m,s _ _ h.l (iw h.l hq (by intro z;cases z))⟩
/-- the level that v must rise to -/
noncomputable def Lvl (r v v':Int) (ks:List Int):Prop:=v<=v'/\((up v' ks).length:Int)<=r/\∀ w,v<=w->w<v'->r<((up w ks).length:Int)
theorem Lvl.uniq {r a b:Int} (h:Lvl r v a ks) (g:Lvl r v b ks):a=b:=by
 rcases (show a<b\/a=b\/b<a by lia) with z | z | z
 ·have:=g.2.2 a h.1 z;have:=h.2.1;lia
 ·exact z
 ·have:=h.2.2 b g.1 z;have:=g.2.1;lia
theorem Lvl.le {r v':Int} (h:Lvl r v v' ks) (r0:0<=r) (hv:v<=61):v'<=61:=by
 rcases (show v'<=61\/61<v' by lia) with z | z
 ·exact z
 ·have:=h.2.2 61 hv z
  rw [abf (by decide)] at this
  have e:(([]:List Int).length:Int)=0:=rfl
  lia
noncomputable def ac5 (A:Ad):Sp:=fun vs H Q _=>∃ (p dx l l0:Addr) (r n v:Int) (ks:List Int),vs=[.ref p,.ref l]/\H p=some (.ins A.iD dx (df (.int r) (.int n) (.int v) (.ref l0)))/\H l=some (.lst (ks.map V.int))/\ks.length<=63/\0<=r/\0<=v/\v<=61/\(∀ z∈ks,v<=mkOf z) /\
 ∀ (l':Addr) (v':Int) (H':Hp),Lvl r v v' ks->Dn A H' p dx l' r n v' (up v' (srt ks))->But p H H'->H l'=none->Q .non H'
noncomputable def lvV:Option V->Nat
 | some (.int v)=>(100-v).toNat
 | _=>0
noncomputable def lvO:Option HO->Nat
 | some (.ins _ _ fs)=>lvV (fs.lookup ("level" : Str))
 | _=>0
noncomputable def lvOf (σ:St) (H:Hp):Nat:=match σ with
 | some (.ref p)::_=>lvO (H p)
 | _=>0
theorem abg {C:Addr} {a b c:V} (h:H p=some (.ins C dx (df a b (.int v) c))):lvOf (some (.ref p)::σ) H=(100-v).toNat:=by
 show lvO (H p)=_
 rw [h]
 show lvV ((df a b (.int v) c).lookup ("level" : Str))=_
 rw [m8];rfl
theorem akU (T:Tx K mg A):cB P w K mg base CX0 4 A.Yw A.lE ["self","things"] (ac5 A):=by
 k_dat (T.F'18.ok,j9,s) "a"
 ·obtain ⟨p,dx,l,l0,r,n,v,ks,rfl,_⟩:=h
  rfl
 ·obtain ⟨p,dx,l,l0,r,n,v,ks,rfl,hp,hl,h900,r0,v0,v61,hv,q⟩:=h
  refine ⟨_,(ao (psS 2 j9.nd (bO (lB rfl) (by rfl) T.pZ Ep (aj (pv 1) au)))
   (ao (jD jB (aQ Gn (bO dJ (by rfl) T.mZ mK (aj (pv 2) au)) (pf 0) (aY _)) (ao (aV (pv 0) (aK bA (pf 0) aB) rfl)
   (aC (psS 2 j9.nd (aF (akT T) tb_g% T.F'17 aL (aj (pv 2) (aj (pf 0) au)))))))
   (aC (aV (pv 0) (pv 2) rfl)))),?_⟩
  refine ⟨_,rfl,.inr ⟨l,ks,rfl,.inl (.inl hl),by lia,fun l1 ms hl1 pm so=>?_⟩⟩
  have s1:Same H (upd H l1 (.lst (ms.map V.int))):=Same.new hl1
  have f1:(upd H l1 (.lst (ms.map V.int))) l1=some (.lst (ms.map V.int)):=ak
  obtain rfl:ms=srt ks:=rZ pm so
  have lm:=pm.length_eq
  show z8 _ _ _ [some (.ref p),some (.ref l),some (.ref l1)] (upd H l1 (.lst ((srt ks).map V.int)))
  generalize upd H l1 (.lst ((srt ks).map V.int))=H1 at s1 f1 ⊢
  have e0:up v (srt ks)=srt ks:=anP fun z hz=>hv z (mJ.mp hz)
  have lu:∀ w,(up w (srt ks)).length=(up w ks).length:=fun w=>by rw [ZX,fX]
  refine jE (fun σ G=>∃ (l2:Addr) (w:Int),σ=[some (.ref p),some (.ref l),some (.ref l2)]/\H l2=none/\G p=some (.ins A.iD dx (df (.int r) (.int n) (.int w) (.ref l0)))/\G l2=some (.lst ((up w (srt ks)).map V.int))/\But p H G/\v<=w/\(w<=61)/\∀ u,v<=u->u<w->r<((up u ks).length:Int)) lvOf
   ⟨l1,v,rfl,hl1,s1 _ _ hp,by rw [e0];exact f1,s1.but p,dY _,v61,fun u a b=>by lia⟩ ?_ ?_
  ·rintro σ G ⟨l2,w,rfl,nl2,gp,gl,bt,hvw,hw,hd⟩
   have lms:(up w (srt ks)).length<=ks.length:=by rw [lu];exact vX _ _
   refine ⟨_,rfl,jw (.inl (.inl gl)) ⟨_,rfl,rdF gp T.eV T.Ci (yG _ _ _ _) ⟨_,_,rfl,rfl,_,rfl,fH (fun hc=>?_) (fun hc=>?_)⟩⟩⟩
   ·have hc:r<(((up w (srt ks)).map V.int).length:Int):=of_decide_eq_true hc
    rw [aZ] at hc
    have hw60:w<=60:=by
     rcases (show w<=60\/60<w by lia) with z | z
     ·exact z
     ·rw [abf z] at hc
      have e:(([]:List Int).length:Int)=0:=rfl
      lia
    refine ⟨_,rfl,rdF gp T.eV T.vH (m8 _ _ _ _) ⟨_,_,rfl,rfl,_,rfl,p,_,dx,_,rfl,gp,T.eV,T.vH,(by show 4<1000;decide),?_⟩⟩
    rw [Dd]
    have npl:l2≠p:=iw gl gp (by intro z;cases z)
    have b2:But p G (upd G p (.ins A.iD dx (df (.int r) (.int n) (.int (w+1)) (.ref l0)))):=But.upd
    have o2:(upd G p (.ins A.iD dx (df (.int r) (.int n) (.int (w+1)) (.ref l0)))) p=some (.ins A.iD dx (df (.int r) (.int n) (.int (w+1)) (.ref l0))):=ak
    have lw:=abg (σ:=[some (.ref l),some (.ref l2)]) gp
    have gl2:=b2 _ _ gl npl
    refine ⟨_,rfl,_,rfl,rdF o2 T.eV T.vH (m8 _ _ _ _) ⟨l2,w+1,_,rfl,gl2,by lia,fun l3 G3 nl3 gl3 s3=>?_⟩⟩
    have nl3':H l3=none:=by
     refine gR (fun b o e m=>b2 b o (bt b o e m) m) nl3 fun z=>?_
     rw [z,o2] at nl3;cases nl3
    rw [abe (show w<=w+1 by lia)] at gl3
    refine ⟨⟨l3,w+1,rfl,nl3',s3 _ _ o2,gl3,fun b o e m=>s3 _ _ (b2 b o (bt b o e m) m),by lia,by lia,fun u a b=>?_⟩,?_⟩
    ·rcases (show u<w\/u=w by lia) with z | z
     ·exact hd u a z
     ·rw [z,<- lu];exact hc
    ·rw [lw]
     refine Jr (Ju (abg (s3 _ _ o2))) ?_
     lia
   ·have hc:¬ r<(((up w (srt ks)).map V.int).length:Int):=fun z=>hc (decide_eq_true z)
    rw [aZ] at hc
    refine ⟨_,rfl,_,rfl,p,_,dx,_,rfl,gp,T.eV,T.Ck,(by show 4<1000;decide),?_⟩
    rw [Vn]
    have npl:l2≠p:=iw gl gp (by intro z;cases z)
    refine q l2 w _ ⟨hvw,by rw [<- lu];lia,hd⟩ ⟨ak,by rw [aA npl];exact gl⟩ (fun b o e m=>by rw [aA m];exact bt b o e m) nl2
  ·exact fun σ H Q Q' hq h=>fj (jj (U8 (tO (bU 2) KD)) (KH (bU 0))) σ H Q Q' hq h
theorem aif (k:Int) (ks:List Int):inV (.int k) (ks.map V.int)=decide (k∈ks):=by
 induction ks with
 | nil=>rfl
 | cons x r ih =>
  show (eqV (.int x) (.int k) || inV (.int k) (r.map V.int))=_
  rw [ih]
  show ((x == k) || decide (k∈r))=decide (k∈x::r)
  by_cases e:k=x
  ·subst e;simp
  ·have:(x == k)=false:=by simp;exact fun z=>e z.symm
   rw [this];simp [e]
theorem aii (ks:List Int):(ks.map V.int).all wW=true:=by
 rw [adH]
 intro x m
 obtain ⟨z,_,rfl⟩:=kj.mp m
 rfl
/-- the different things that came,k behind them -/
noncomputable def came (C:List Int) (k:Int):List Int:=if k∈C then C else C++[k]
theorem aij (C:List Int) (k:Int):C.length<=(came C k).length/\(came C k).length<=C.length+1:=by
 unfold came
 split
 ·lia
 ·rw [cV];show C.length<=C.length+1/\_;exact ⟨by lia,bh _⟩
theorem ajX {k w:Int}:(up w C).length<=(up w (came C k)).length:=by
 unfold came
 split
 ·exact bh _
 ·unfold up;rw [Aw,cV];lia
/-- a level v of the different things C: the least that will do -/
noncomputable def rD (r v:Int) (C:List Int):Prop:=0<=v/\((up v C).length:Int)<=r/\∀ w,0<=w->w<v->r<((up w C).length:Int)
theorem rD.lvl {r v':Int} (h:rD r v C) (g:Lvl r v v' D) (hm:∀ w,(up w C).length<=(up w D).length):rD r v' D:=by
 have:=h.1
 have:=g.1
 refine ⟨by lia,g.2.1,fun w a b=>?_⟩
 rcases (show w<v\/v<=w by lia) with z | z
 ·have:=h.2.2 w a z;have:=hm w;lia
 ·exact g.2.2 w z b
theorem rD.le {r:Int} (h:rD r v C) (r0:0<=r):v<=61:=Lvl.le (ks:=C) (v:=0) ⟨h.1,h.2.1,h.2.2⟩ r0 (by decide)
noncomputable def anQ (A:Ad):Sp:=fun vs H Q _=>∃ (p dx l:Addr) (r n v k:Int) (C:List Int),vs=[.ref p,.int k]/\Dn A H p dx l r n v (srt (up v C))/\rD r v C/\C.length<=62/\0<=r/\r<=800 /\
 ∀ (l':Addr) (v':Int) (H':Hp),Lvl r v v' (came C k)->Dn A H' p dx l' r (n+1) v' (srt (up v' (came C k)))->But p H H'->(l'=l\/H l'=none)->Q .non H'
theorem ok'19 (T:Tx K mg A):cB P w K mg base CX0 5 A.Yx A.pJ Q21 (anQ A):=by
 k_dat (T.F'19.ok,Hi,s) "a"
 ·obtain ⟨p,dx,l,r,n,v,k,C,rfl,_⟩:=h
  rfl
 ·obtain ⟨p,dx,l,r,n,v,k,C,rfl,hd,hL,h8,r0,r8,q⟩:=h
  have v0:=hL.1
  have v61:=hL.le r0
  have hlen:(srt (up v C)).length<=62:=by have:(up v C).length<=C.length:=vX _ _;rw [fX];lia
  refine ⟨_,(ao (aV (pv 0) (aK bA (pf 0) aB) rfl)
   (aC (dO (PW.pt (pw_and (aQ aaF (aF (akR T) tb_g% T.F'15 aL (aj (pv 1) au)) (pf 0) (aY _)) (pw_and1 (aQ (am3 (cN hr)) (pv 1) (pf 0) (by with_unfolding_all rfl))))) (aC (bC (cI (pv 0) T.eV T.qZ (akU T) tb_g% T.b'18 .nil aL (aj (aK wX (pf 0) (dR (aj (pv 1) au))) au)))) cG))),?_⟩
  refine ⟨_,rfl,rdF hd.o T.eV T.Cj (rC _ _ _ _) ⟨_,_,rfl,rfl,_,rfl,p,_,dx,_,rfl,hd.o,T.eV,T.Cj,(by show 4<1000;decide),?_⟩⟩
  rw [vM]
  have b1:But p H (upd H p (.ins A.iD dx (df (.int r) (.int (n+1)) (.int v) (.ref l)))):=But.upd
  have d1:Dn A (upd H p (.ins A.iD dx (df (.int r) (.int (n+1)) (.int v) (.ref l)))) p dx l r (n+1) v (srt (up v C)):=⟨ak,by rw [aA (iw hd.l hd.o (by intro z;cases z))];exact hd.l⟩
  generalize upd H p (.ins A.iD dx (df (.int r) (.int (n+1)) (.int v) (.ref l)))=H1 at b1 d1 ⊢
  refine ⟨_,rfl,k,rfl,fun h hh=>⟨_,rfl,rdF d1.o T.eV T.vH (m8 _ _ _ _) ⟨_,_,rfl,rfl,_,rfl,fH (fun hc=>?_) (fun hc=>?_)⟩⟩⟩
  ·have hc:v<=(h:Int):=of_decide_eq_true hc
   rw [mk_eq hh] at hc
   refine ⟨_,rfl,_,rfl,rdF d1.o T.eV T.Ck (Dc _ _ _ _) (.inl ⟨l,_,rfl,.inl (.inl (.inl d1.l)),rfl,aii _,_,rfl,?_⟩)⟩
   rw [if_pos rfl,aif]
   by_cases m:k∈srt (up v C)
   ·rw [decide_eq_true m]
    have ec:came C k=C:=by unfold came;rw [if_pos (qe.mp (mJ.mp m)).1]
    rw [ec] at q
    exact tH (q l v _ ⟨dY _,hL.2.1,fun w a b=>by lia⟩ d1 b1 (.inl rfl))
   ·rw [decide_eq_false m]
    have hk:k∉C:=fun z=>m (mJ.mpr (qe.mpr ⟨z,hc⟩))
    have ec:came C k=C++[k]:=by unfold came;rw [if_neg hk]
    have eu:∀ w,v<=w->up w (srt (up v C)++[k])=up w (srt (up v C))++up w [k]:=fun w _=>by unfold up;rw [Aw]
    refine oG ⟨_,rfl,p,dx,_,rfl,d1.o,aie _ _ _ _ tb_g% tb_g% tb_g% tb_g%,?_⟩
    refine ⟨_,rfl,rdF d1.o T.eV T.Ck (Dc _ _ _ _) ⟨_,rfl,(by show 1<=sizeLine;decide),fun l1 hl1=>?_⟩⟩
    have s2:Same H1 (upd H1 l1 (.lst [.int k])):=Same.new hl1
    refine ⟨l,l1,_,_,rfl,rfl,s2 _ _ d1.l,ak,ou (bB (by rw [aZ];show (srt (up v C)).length+1<=1000;lia)),fun l2 hl2=>?_⟩
    have s3:Same H1 (upd (upd H1 l1 (.lst [.int k])) l2 (.lst ((srt (up v C)++[k]).map V.int))):=s2.trans (Same.new hl2)
    have f3:(upd (upd H1 l1 (.lst [.int k])) l2 (.lst ((srt (up v C)++[k]).map V.int))) l2=some (.lst ((srt (up v C)++[k]).map V.int)):=ak
    rw [show (srt (up v C)).map V.int++[V.int k]=(srt (up v C)++[k]).map V.int by rw [cC];rfl]
    generalize upd (upd H1 l1 (.lst [.int k])) l2 (.lst ((srt (up v C)++[k]).map V.int))=H3 at s3 f3 ⊢
    have d3:=d1.same s3
    have pm:(srt (up v C)++[k]).Perm (up v (C++[k])):=by
     have:up v (C++[k])=up v C++[k]:=by unfold up;rw [Aw];simp [hc]
     rw [this]
     exact (iH _).append_right _
    refine ⟨p,dx,l2,l,r,n+1,v,_,rfl,d3.o,f3,by rw [cV];show (srt (up v C)).length+1<=63;lia,r0,v0,v61,(fun z hz=>(qe.mp (pm.mem_iff.mp hz)).2),fun l' v' H' lv dn bt nl=>?_⟩
    have el:∀ w,v<=w->(up w (srt (up v C)++[k])).length=(up w (C++[k])).length:=fun w hw=>(pm.filter _).length_eq.trans (congrArg lQ (abe hw _))
    have nl1:H1 l'=none:=s3.free nl
    have nl0:H l'=none:=gR b1 nl1 fun z=>by rw [z,d1.o] at nl1;cases nl1
    refine q l' v' H' ?_ ?_ (fun b o e m'=>bt b o (s3 _ _ (b1 b o e m')) m') (.inr nl0)
    ·rw [ec]
     exact ⟨lv.1,by rw [<- el _ lv.1];exact lv.2.1,fun w a b=>by rw [<- el _ a];exact lv.2.2 w a b⟩
    ·rw [ec]
     have:up v' (srt (srt (up v C)++[k]))=srt (up v' (C++[k])):=by
      rw [Oh pm,ZX,abe lv.1]
     rw [this] at dn
     exact dn
  ·have hc:¬ v<=(h:Int):=fun z=>hc (decide_eq_true z)
   rw [mk_eq hh] at hc
   have ew:∀ w,v<=w->up w (came C k)=up w C:=fun w hw=>by
    unfold came
    split
    ·rfl
    ·unfold up;rw [Aw];simp [show ¬ w<=mkOf k by lia]
   refine tH (q l v _ ⟨dY _,by rw [ew v (dY _)];exact hL.2.1,fun w a b=>by lia⟩ ?_ b1 (.inl rfl))
   rw [ew v (dY _)];exact d1
noncomputable def fl (r t l:Int) (d:Addr):List (Str × V):=[("room",.int r),("total",.int t),("lost",.int l),("counts",.ref d)]
theorem yH (r t l:Int) (d:Addr):(fl r t l d).lookup ("room" : Str)=some (.int r):=by rfl
theorem Df (r t l:Int) (d:Addr):(fl r t l d).lookup ("total" : Str)=some (.int t):=by rfl
theorem Ig (r t l:Int) (d:Addr):(fl r t l d).lookup ("lost" : Str)=some (.int l):=by rfl
theorem tY (r t l:Int) (d:Addr):(fl r t l d).lookup ("counts" : Str)=some (.ref d):=by rfl
theorem ne1:¬ (("room" : Str) = "total"):=by decide +kernel
theorem ne2:¬ (("room" : Str) = "lost"):=by decide +kernel
theorem ne3:¬ (("room" : Str) = "counts"):=by decide +kernel
theorem ne4:¬ (("total" : Str) = "lost"):=by decide +kernel
theorem ne5:¬ (("total" : Str) = "counts"):=by decide +kernel
theorem ne6:¬ (("lost" : Str) = "counts"):=by decide +kernel
theorem R5 (f:Str) (v:V) (r:List (Str × V)) (u:V):bV f v ((f,u)::r)=(f,v)::r:=by unfold bV;rw [if_pos rfl]
theorem jZ {f g:Str} (h:¬ g=f) (v:V) (r:List (Str × V)) (u:V):bV f v ((g,u)::r)=(g,u)::bV f v r:=by rw [bV,if_neg h]
theorem anR (r t l:Int) (d:Addr):bV "counts" (.ref d) (bV "lost" (.int l) (bV "total" (.int t) (bV "room" (.int r) [])))=fl r t l d:=by
 unfold fl
 rw [show bV "room" (.int r) []=[(("room" : Str),V.int r)] from rfl,jZ ne1,show bV "total" (.int t) []=[(("total" : Str),V.int t)] from rfl,jZ ne2,jZ ne4,
  show bV "lost" (.int l) []=[(("lost" : Str),V.int l)] from rfl,jZ ne3,jZ ne5,jZ ne6]
 rfl
theorem abh (r t l y:Int) (d:Addr):bV "total" (.int y) (fl r t l d)=fl r y l d:=by
 unfold fl;rw [jZ ne1,R5]
theorem abj (r t l y:Int) (d:Addr):bV "lost" (.int y) (fl r t l d)=fl r t y d:=by
 unfold fl;rw [jZ ne2,jZ ne4,R5]
theorem ajY (r t l:Int) (d e:Addr):bV "counts" (.ref e) (fl r t l d)=fl r t l e:=by
 unfold fl;rw [jZ ne3,jZ ne5,jZ ne6,R5]
theorem Ih {f:Str} {v:V} {r:List (Str × V)} (h:¬ m=f):((f,v)::r).lookup m=r.lookup m:=by
 rw [Wc]
 rw [beq_eq_false_iff_ne.mpr h]
theorem abk (r t l:Int) (d:Addr) (h1:¬ m = "room") (h2:¬ m = "total") (h3:¬ m = "lost") (h4:¬ m = "counts"):(fl r t l d).lookup m=none:=by
 unfold fl
 rw [Ih h1,Ih h2,Ih h3,Ih h4]
 rfl
noncomputable def anS (A:Ad):Sp:=fun vs H Q _=>∃ (p dx:Addr) (r:Int),vs=[.ref p,.int r]/\H p=some (.ins A.iG dx []) /\
 ∀ (d:Addr) (H':Hp),H d=none->H' p=some (.ins A.iG dx (fl r 0 0 d))->H' d=some (.dK (emb []))->But p H H'->Q .non H'
theorem aik (T:Tx K mg A):cB P w K mg base CX0 1 A.S5 A.nM Q3 (anS A):=by
 k_dat (T.F'20.ok,FQ,s) "a"
 ·obtain ⟨p,dx,r,rfl,_⟩:=h
  rfl
 ·obtain ⟨p,dx,r,rfl,hp,k⟩:=h
  refine ⟨_,(ao (aV (pv 0) (pv 1) rfl)
   (ao (aV (pv 0) aB rfl)
   (ao (aV (pv 0) aB rfl)
   (aC (aV (pv 0) Uh rfl))))),?_⟩
  refine ⟨_,rfl,_,rfl,p,_,dx,[],rfl,hp,T.fK,T.Cm,(by show 0<1000;decide),?_⟩
  k_dat (dx,ak,T.fK,T.Cp,1) "b"
  k_dat (dx,ak,T.fK,T.Cq,2) "b"
  rw [cU,cU]
  intro d hd
  have npd:p≠d:=fun z=>by rw [<- z,ak] at hd;cases hd
  rw [aA (aU npd)] at hd
  refine ⟨_,rfl,p,_,dx,_,rfl,(by rw [aA npd];exact ak),T.fK,T.Cr,(by show 3<1000;decide),?_⟩
  refine k d _ hd (Et ak (by rw [anR])) (by rw [aA (aU npd),ak];rfl) fun b o e hb=>?_
  rw [aA hb,aA (aq e hd),aA hb]
  exact e
/-- the cut of the counts c -/
noncomputable def Oi (room:Nat) (c:Tab) (cut:Int):Prop:=if c.length<=room then cut=0 else IsCut room c cut
theorem Oi.anT {c:Tab} {cut:Int} (h:Oi room c cut) (hp:∀ p∈c,1<=p.2):gj room c (cY c cut) cut:=by
 unfold Oi at h;unfold gj
 by_cases e:c.length<=room
 ·rw [if_pos e] at h ⊢; exact ⟨h,by rw [h,ag6 hp]⟩
 ·rw [if_neg e] at h ⊢; exact ⟨h,rfl⟩
noncomputable def spCut:Sp:=fun vs H Q _=>∃ (g:Addr) (c:Tab) (room:Nat),vs=[.ref g,.int room]/\H g=some (.dK (emb c))/\c.length<64/\∀ (cut:Int) (H':Hp),Oi room c cut->Same H H'->Q (.int cut) H'
theorem ok'21 (T:Tx K mg A):cB P w K mg base CX0 1 A.abE A.Vf ["counts","room"] spCut:=by
 k_dat (T.F'21.ok,Od,s) "a"
 ·obtain ⟨g,c,room,rfl,_⟩:=h
  rfl
 ·obtain ⟨g,c,room,rfl,hg,h64,q⟩:=h
  refine ⟨_,(ao (dO (aQ aaE (bO dJ (by rfl) T.mZ mK (aj (pv 0) au)) (pv 1) (aY _)) (aC (bQ aB)) cG)
   (ao (psS 2 Od.nd (acv T.pZ (pv 0) ⟨rfl,rfl⟩ rfl))
   (aC (bQ (dw (ixG (cN hr)) (pv 2) (pv 1) (fun _ _=>rfl)))))),?_⟩
  refine ⟨_,rfl,am7 (.inl hg) ⟨_,rfl,_,_,rfl,rfl,_,rfl,fH (fun h=>?_) (fun h=>?_)⟩⟩
  ·have h':((emb c).length:Int)<=room:=of_decide_eq_true h
   rw [uJ] at h'
   exact q 0 H (by unfold Oi;rw [if_pos tb_g%]) (Same.refl H)
  ·have h':¬ ((emb c).length:Int)<=room:=fun z=>h (decide_eq_true z)
   rw [uJ] at h'
   refine ⟨_,rfl,g,emb c,vals c,rfl,.inl hg,ag7 c,(by unfold vals;rw [aZ];exact h64),fun l d hl hp hs=>?_⟩
   have hlen:d.length=c.length:=by rw [hp.length_eq];unfold vals;rw [aZ]
   have e:d[room]? = some d[room]:=fY tb_g%
   refine ⟨_,rfl,_,rfl,lO (.inl (.inl ak)) (v:=.int d[room]) (yq (by rw [gZ,e];rfl)) (q _ _ ?_ (Same.new hl))⟩
   unfold Oi
   rw [if_neg tb_g%]
   exact ⟨d,hp,hs,e⟩
noncomputable def ac6:Sp:=fun vs H Q _=>∃ (g:Addr) (c:Tab) (cut:Int),vs=[.ref g,.int cut]/\H g=some (.dK (emb c))/\(keys c).Nodup/\c.length<=1000 /\
 ∀ (d:Addr) (H':Hp),H d=none->H' d=some (.dK (emb (cY c cut)))->Same H H'->Q (.ref d) H'
theorem Vo (c:Tab) (p:Int × Int) (cut:Int):cY (c++[p]) cut=if cut<p.2 then cY c cut++[(p.1,p.2-cut)] else cY c cut:=by
 unfold cY
 rw [Aw,cC]
 by_cases h:cut<p.2
 ·rw [if_pos h];simp [h]
 ·rw [if_neg h];simp [h]
theorem take_snoc {c:Tab} {p:Int × Int} (h:c[i]? = some p):c.take (i+1)=c.take i++[p]:=by
 rw [nZ,h];rfl
theorem ajZ {c:Tab} {p:Int × Int} {cut:Int} (hn:(keys c).Nodup) (h:c[i]? = some p) (hc:cut<p.2):put (cY (c.take i) cut) p.1 (p.2-cut)=cY (c.take (i+1)) cut:=by
 rw [take_snoc h,Vo,if_pos hc]
 refine Bo fun z=>?_
 have z1:=uH z
 have e:keys (c.take (i+1))=keys (c.take i)++[p.1]:=by rw [take_snoc h];unfold keys;rw [cC];rfl
 have hn':(keys (c.take (i+1))).Nodup:=afL (afQ _ (V9 _ _)) hn
 rw [e,zp] at hn'
 exact hn'.2.2 p.1 z1 p.1 (by simp) rfl
theorem ok'22 (T:Tx K mg A):cB P w K mg base CX0 1 A.abF A.NT ["counts","cut"] ac6:=by
 k_dat (T.F'22.ok,uY,s) "a"
 ·obtain ⟨g,c,cut,rfl,_⟩:=h
  rfl
 ·obtain ⟨g,c,cut,rfl,hg,hn,hl,q⟩:=h
  refine ⟨_,(ao (psS 2 uY.nd Uh)
   (ao (aaM jB rfl (pv 0) ⟨rfl,rfl⟩ (Q0 rfl (mU (pgN 3 uY.nd) (mU (pgN 4 uY.nd) Hx))) (aC (dO (aQ Gn (pv 4) (pv 1) (aY _)) (aC (Fd (aK uF (pv 4) (pv 1)) (Fb (pv 2) (pv 3) (setG (cN hr))))) cG)))
   (aC (bQ (pv 2))))),?_⟩
  intro d hd
  have ngd:g≠d:=aq hg hd
  have hg1:(upd H d (.dK [])) g=some (.dK (emb c)):=by rw [aA ngd];exact hg
  refine ⟨_,rfl,g,emb c,rfl,hg1,fun o wm=>Ng (fun i σ H2=>∃ (x y:Option V),σ=[some (.ref g),some (.int cut),some (.ref d),x,y]/\H2 g=some (.frz o (.dK (emb c)))/\H2 d=some (.dK (emb (cY (c.take i) cut)))/\(∀ b u,H b=some u->b≠g->H2 b=some u))
   ⟨none,none,rfl,ak,by rw [aA (aU ngd),ak];rfl,fun b u e hb=>by rw [aA hb,aA (aq e hd)];exact e⟩ (fun i σ H2 ⟨_,_,_,h,_⟩=>h) ?_ ?_⟩
  ·rintro i p t σ H2 hi ⟨x,y,rfl,f1,f2,f3⟩ ht
   obtain ⟨pr,hpr,rfl⟩:=ag9 hi
   have ngt:g≠t:=aq f1 ht
   have ndt:d≠t:=aq f2 ht
   have f1':(upd H2 t (.tup [.int pr.1,.int pr.2])) g=some (.frz o (.dK (emb c))):=by rw [aA ngt];exact f1
   have f2':(upd H2 t (.tup [.int pr.1,.int pr.2])) d=some (.dK (emb (cY (c.take i) cut))):=by rw [aA ndt];exact f2
   have f3':∀ b u,H b=some u->b≠g->(upd H2 t (.tup [.int pr.1,.int pr.2])) b=some u:=fun b u e hb=>by
    have:=f3 b u e hb
    rw [aA (aq this ht)];exact this
   refine ⟨t,_,rfl,.inl (.inl ak),rfl,_,_,rfl,_,_,rfl,rfl,?_⟩
   refine ⟨_,rfl,_,rfl,_,_,rfl,rfl,_,rfl,fH (fun h=>?_) (fun h=>?_)⟩
   ·have hc:cut<pr.2:=of_decide_eq_true h
    have hz:(emb (cY (c.take i) cut)).length<sizeLine:=by
     rw [uJ]
     have:=ajg (c.take i) cut
     rw [jy] at this
     exact bB tb_g%
    refine ⟨_,rfl,_,rfl,_,_,rfl,rfl,_,rfl,_,rfl,Zd f2' hz ?_⟩
    rw [Kd,ajZ hn hpr hc]
    refine ⟨_,_,rfl,by rw [aA ngd];exact f1',ak,fun b u e hb=>?_⟩
    have nb:b≠d:=aq e hd
    rw [aA nb];exact f3' b u e hb
   ·have hc:¬ cut<pr.2:=fun z=>h (decide_eq_true z)
    refine ⟨_,_,rfl,f1',?_,f3'⟩
    rw [take_snoc hpr,Vo,if_neg hc];exact f2'
  ·rintro σ H2 ⟨x,y,rfl,f1,f2,f3⟩
   rw [uJ,qu] at f2
   refine ⟨g,emb c,o,wm,f1,_,rfl,q d _ hd ?_ fun b u e=>?_⟩
   ·rw [aA (aU ngd)];exact f2
   ·by_cases hb:b=g
    ·subst hb;rw [ak,<- e,hg]
    ·rw [aA hb];exact f3 b u e hb
noncomputable def spFit (A:Ad):Sp:=fun vs H Q _=>∃ (p dx g d:Addr) (room:Nat) (t l:Int) (c:Tab),vs=[.ref p,.ref g]/\H p=some (.ins A.iG dx (fl room t l d))/\H g=some (.dK (emb c))/\(keys c).Nodup/\(∀ p∈c,1<=p.2)/\c.length<64 /\
 ∀ (d':Addr) (c':Tab) (cut:Int) (H':Hp),H d'=none->gj room c c' cut->H' p=some (.ins A.iG dx (fl room t (l+cut) d'))->H' d'=some (.dK (emb c'))->But p H H'->Q .non H'
theorem akV (T:Tx K mg A):cB P w K mg base CX0 2 A.Yy A.pK ["self","grown"] (spFit A):=by
 k_dat (T.F'23.ok,vK,s) "a"
 ·obtain ⟨p,dx,g,d,room,t,l,c,rfl,_⟩:=h
  rfl
 ·obtain ⟨p,dx,g,d,room,t,l,c,rfl,hp,hg,hn,pos,h64,q⟩:=h
  refine ⟨_,(ao (psS 2 vK.nd (aF (ok'21 T) tb_g% T.F'21 aL (aj (pv 1) (aj (pf 0) au))))
   (ao (aV (pv 0) (aF (ok'22 T) tb_g% T.F'22 aL (aj (pv 1) (aj (pv 2) au))) rfl)
   (aC (aV (pv 0) (aK bA (pf 0) (pv 2)) rfl)))),?_⟩
  refine ⟨_,rfl,_,rfl,rdF hp T.fK T.Cm (yH _ _ _ _) ⟨g,c,room,rfl,hg,h64,fun cut H1 hc s1=>?_⟩⟩
  refine ⟨_,rfl,_,rfl,g,c,cut,rfl,s1 _ _ hg,hn,by lia,fun d' H2 hd' e2 s2=>?_⟩
  have hp2:=s2 _ _ (s1 _ _ hp)
  have npd:p≠d':=aq (s1 _ _ hp) hd'
  k_dat (dx,hp2,T.fK,T.Cr,4) "b"
  rw [ajY]
  refine ⟨_,rfl,rdF ak T.fK T.Cq (Ig _ _ _ _) ⟨_,rfl,_,_,rfl,rfl,_,rfl,p,_,dx,_,rfl,ak,T.fK,T.Cq,(by show 4<1000;decide),?_⟩⟩
  rw [abj,cU]
  refine q d' (cY c cut) cut _ (s1.free hd') (hc.anT pos) ak (by rw [aA (aU npd)];exact e2) fun b o e hb=>?_
  rw [aA hb];exact s2 _ _ (s1 _ _ e)
noncomputable def spAdd (A:Ad):Sp:=fun vs H Q _=>∃ (p dx d:Addr) (room:Nat) (t l k v:Int) (c:Tab),vs=[.ref p,.int k,.int v]/\H p=some (.ins A.iG dx (fl room t l d))/\H d=some (.dK (emb c))/\(keys c).Nodup/\(∀ p∈c,1<=p.2)/\1<=v/\c.length<63 /\
 ∀ (d':Addr) (c':Tab) (cut:Int) (H':Hp),H d'=none->gj room (put c k (low c k+v)) c' cut->H' p=some (.ins A.iG dx (fl room (t+v) (l+cut) d'))->H' d'=some (.dK (emb c'))->But p H H'->Q .non H'
theorem akW (T:Tx K mg A):cB P w K mg base CX0 3 A.Yz A.pL Q2 (spAdd A):=by
 k_dat (T.F'24.ok,vL,s) "a"
 ·obtain ⟨p,dx,d,room,t,l,k,v,c,rfl,_⟩:=h
  rfl
 ·obtain ⟨p,dx,d,room,t,l,k,v,c,rfl,hp,hd,hn,pos,hv,h63,q⟩:=h
  have npd:p≠d:=iw hp hd (by intro z;cases z)
  refine ⟨_,(ao (aV (pv 0) (aK bA (pf 0) (pv 2)) rfl)
   (ao (psS 3 vL.nd (ji JZ (by rfl) T.ah3 afg (aj (pf 0) au)))
   (ao (Fd (aK bA (Ui (cN hr) (pv 3) (pv 1) aB ⟨rfl,rfl,rfl,rfl⟩) (pv 2)) (Fb (pv 3) (pv 1) (setG (cN hr))))
   (aC (bC (cI (pv 0) T.fK T.xV (akV T) tb_g% T.b'23 .nil aL (aj (pv 3) au))))))),?_⟩
  refine ⟨_,rfl,rdF hp T.fK T.Cp (Df _ _ _ _) ⟨_,rfl,_,_,rfl,rfl,_,rfl,p,_,dx,_,rfl,hp,T.fK,T.Cp,(by show 4<1000;decide),?_⟩⟩
  rw [abh]
  have hd1:(upd H p (.ins A.iG dx (fl room (t+v) l d))) d=some (.dK (emb c)):=by rw [aA (aU npd)];exact hd
  refine ⟨_,rfl,rdF ak T.fK T.Cr (tY _ _ _ _) ⟨d,emb c,rfl,.inl hd1,fun g hg=>?_⟩⟩
  have ngp:p≠g:=fun z=>by rw [<- z,ak] at hg;cases hg
  have hg0:H g=none:=by rw [aA (aU ngp)] at hg;exact hg
  refine ⟨_,rfl,g,rfl,.inl ⟨emb c,.inl ak⟩,_,rfl,_,akA (.inl ak),?_⟩
  rw [aaQ]
  refine ⟨_,rfl,_,_,rfl,rfl,_,rfl,_,rfl,Zd ak (by rw [uJ];exact bB tb_g%) ?_⟩
  rw [Kd,cU]
  have hp2:∀ o,(upd (upd H p (.ins A.iG dx (fl room (t+v) l d))) g o) p=some (.ins A.iG dx (fl room (t+v) l d)):=fun o=>by rw [aA ngp];exact ak
  refine ⟨_,rfl,p,dx,_,rfl,hp2 _,abk _ _ _ _ tb_g% tb_g% tb_g% tb_g%,_,rfl,p,dx,g,d,room,t+v,l,_,rfl,hp2 _,ak,Rj hn _ _,Rp pos (by have:=uG pos k;lia),?_,fun d' c' cut H' e1 e2 e3 e4 e5=>?_⟩
  ·have:=Rm c k (low c k+v);lia
  ·have ngd:g≠d':=fun z=>by rw [<- z,ak] at e1;cases e1
   have npd':p≠d':=fun z=>by rw [<- z,hp2] at e1;cases e1
   rw [aA (aU ngd),aA (aU npd')] at e1
   refine q d' c' cut H' e1 e2 e3 e4 fun b o e hb=>e5 b o ?_ hb
   rw [aA (aq e hg0),aA hb];exact e
noncomputable def bf (aN mF:V):List (Str × V):=[("span",aN),("sums",mF)]
theorem Dg (aN mF:V):(bf aN mF).lookup ("span" : Str)=some aN:=by rfl
theorem Dh (aN mF:V):(bf aN mF).lookup ("sums" : Str)=some mF:=by rfl
theorem anU (aN mF:V):bV "sums" mF (bV "span" aN [])=bf aN mF:=by
 unfold bf
 walk_at "rec"
theorem yd (aN mF y:V):bV "sums" y (bf aN mF)=bf aN y:=by
 unfold bf
 walk_at "rec"
theorem akX (aN mF:V) (Lf:¬ m = "span") (anV:¬ m = "sums"):(bf aN mF).lookup m=none:=by
 unfold bf
 rw [cH Lf,cH anV]
 rfl
structure Q4 where
 a:Int
 b:Int
 c:Int
 d:Int
noncomputable def L4 (q:Q4):List Int:=[q.a,q.b,q.c,q.d]
noncomputable def addQ (q p:Q4):Q4:=⟨q.a+p.a,q.b+p.b,q.c+p.c,q.d+p.d⟩
noncomputable def pwQ (t w:Int):Q4:=⟨w,w*t,w*t*t,w*t*t*t⟩
noncomputable def Oj:Q4:=⟨0,0,0,0⟩
noncomputable def ail (t w:Int):Nat->Int
 | 0=>w
 | n+1=>ail t w n*t
/-- a Balance -/
structure Bn (A:Ad) (H:Hp) (p dx l:Addr) (s:Int) (q:Q4):Prop where
 o:H p=some (.ins A.uD dx (bf (.int s) (.ref l)))
 l:H l=some (.lst ((L4 q).map V.int))
theorem Bn.same {l:Addr} {s:Int} {q:Q4} (h:Bn A H p dx l s q) (z:Same H H'):Bn A H' p dx l s q:=⟨z _ _ h.o,z _ _ h.l⟩
theorem Bn.but {l x C:Addr} {fs:List (Str × V)} {s:Int} {q:Q4} (h:Bn A H p dx l s q) (z:But x H H') (hq:H x=some (.ins C e fs)) (m:p≠x):Bn A H' p dx l s q:=⟨z _ _ h.o m,z _ _ h.l (iw h.l hq (by intro z;cases z))⟩
noncomputable def ac7:Sp:=fun vs H Q _=>∃ (l:Addr) (t w:Int) (q:Q4),vs=[.ref l,.int t,.int w]/\H l=some (.lst ((L4 q).map V.int))/\0<=t/\t<2 ^ 64/\∀ (l':Addr) (H':Hp),H l'=none->H' l'=some (.lst ((L4 (addQ q (pwQ t w))).map V.int))->Same H H'->Q (.ref l') H'
theorem mG {q:Q4} {x:V} (h:((L4 q).map V.int)[i]? = some x):(i=0/\x = .int q.a)\/(i=1/\x = .int q.b)\/(i=2/\x = .int q.c)\/(i=3/\x = .int q.d):=by
 match i,h with
 | 0,h=>exact .inl ⟨rfl,(bW h).symm⟩
 | 1,h=>exact .inr (.inl ⟨rfl,(bW h).symm⟩)
 | 2,h=>exact .inr (.inr (.inl ⟨rfl,(bW h).symm⟩))
 | 3,h=>exact .inr (.inr (.inr ⟨rfl,(bW h).symm⟩))
 | n+4,h=>simp [L4] at h
theorem akY (T:Tx K mg A):cB P w K mg base CX0 1 A.abG A.KQ Q27 ac7:=by
 k_dat (T.F'25.ok,m5,s) "a"
 ·obtain ⟨l,t,w,q,rfl,_⟩:=h
  rfl
 ·obtain ⟨l,t,w,q,rfl,hl,t0,t1,k⟩:=h
  refine ⟨_,(ao (psS 3 m5.nd (dR au))
   (ao (psS 4 m5.nd (pv 2))
   (ao (rR jB rfl (mH (pv 0)) (pgN 5 m5.nd) (ao (bC (jG mL sY sZ d8 (pv 3) (aj (aK bA (pv 5) (pv 4)) au)))
   (aC (psS 4 m5.nd (aK lA (pv 4) (pv 1))))))
   (aC (bQ (pv 3)))))),?_⟩
  refine ⟨(by show 0<=sizeLine;decide),fun D hD=>?_⟩
  refine ⟨_,rfl,?_⟩
  have sD:Same H (upd H D (.lst [])):=Same.new hD
  refine ⟨_,rfl,l,rfl,⟨_,.inl (.inl (sD _ _ hl))⟩,wV (K:=K) (a:=l) (xs:=(L4 q).map V.int) (fun i σ H2=>∃ x,σ=[some (.ref l),some (.int t),some (.int w),some (.ref D),some (.int (ail t w i)),x]/\H2 D=some (.lst (((L4 (addQ q (pwQ t w))).take i).map V.int))/\Same H H2) ⟨none,rfl,ak,sD⟩ (fun i σ H2 _ ⟨_,_,_,s⟩=>.inl (.inl (s _ _ hl))) ?_ ?_⟩
  ·rintro i y σ H2 hi ⟨x,rfl,f,s2⟩
   have hz:∀ n:Nat,n<=4->(((L4 (addQ q (pwQ t w))).take n).map V.int).length<sizeLine:=fun n hn=>bB (by rw [aZ,jy];lia)
   have keep:∀ L b o,H b=some o->(upd H2 D L) b=some o:=fun L b o e=>by rw [aA (aq e hD)];exact s2 _ _ e
   rcases mG hi with ⟨rfl,rfl⟩ | ⟨rfl,rfl⟩ | ⟨rfl,rfl⟩ | ⟨rfl,rfl⟩
   ·refine ⟨_,rfl,.inl ⟨rfl,_,.inl (.inl f)⟩,_,rfl,_,rfl,_,_,rfl,rfl,D,_,_,rfl,rfl,f,hz 0 (by decide),?_⟩
    exact ⟨_,rfl,_,rfl,_,_,rfl,rfl,iV tb_g% t1,_,rfl,ak,keep _⟩
   ·refine ⟨_,rfl,.inl ⟨rfl,_,.inl (.inl f)⟩,_,rfl,_,rfl,_,_,rfl,rfl,D,_,_,rfl,rfl,f,hz 1 (by decide),?_⟩
    exact ⟨_,rfl,_,rfl,_,_,rfl,rfl,iV tb_g% t1,_,rfl,ak,keep _⟩
   ·refine ⟨_,rfl,.inl ⟨rfl,_,.inl (.inl f)⟩,_,rfl,_,rfl,_,_,rfl,rfl,D,_,_,rfl,rfl,f,hz 2 (by decide),?_⟩
    exact ⟨_,rfl,_,rfl,_,_,rfl,rfl,iV tb_g% t1,_,rfl,ak,keep _⟩
   ·refine ⟨_,rfl,.inl ⟨rfl,_,.inl (.inl f)⟩,_,rfl,_,rfl,_,_,rfl,rfl,D,_,_,rfl,rfl,f,hz 3 (by decide),?_⟩
    exact ⟨_,rfl,_,rfl,_,_,rfl,rfl,iV tb_g% t1,_,rfl,ak,keep _⟩
  ·rintro σ H2 ⟨x,rfl,f,s2⟩
   exact ⟨_,rfl,k D H2 hD f s2⟩
noncomputable def aj0 (A:Ad):Sp:=fun vs H Q _=>∃ (p dx:Addr) (s:Int),vs=[.ref p,.int s]/\H p=some (.ins A.uD dx [])/\∀ (d:Addr) (H':Hp),H d=none->Bn A H' p dx d s Oj->But p H H'->Q .non H'
theorem akZ (T:Tx K mg A):cB P w K mg base CX0 1 A.S6 A.pO Q22 (aj0 A):=by
 k_dat (T.F'26.ok,Hj,s) "a"
 ·obtain ⟨p,dx,s,rfl,_⟩:=h
  rfl
 ·obtain ⟨p,dx,sp,rfl,hp,q⟩:=h
  refine ⟨_,(ao (aV (pv 0) (pv 1) rfl)
   (aC (aV (pv 0) (dR (aj aB (aj aB (aj aB (aj aB au))))) rfl))),?_⟩
  refine ⟨_,rfl,_,rfl,p,_,dx,[],rfl,hp,T.mX,T.Gz,(by show 0<1000;decide),?_⟩
  refine ⟨(by show 4<=sizeLine;decide),fun d hd=>?_⟩
  have npd:p≠d:=fun z=>by rw [<- z,ak] at hd;cases hd
  rw [aA (aU npd)] at hd
  refine ⟨_,rfl,p,_,dx,_,rfl,(by rw [aA npd];exact ak),T.mX,T.xO,(by show 1<1000;decide),?_⟩
  refine q d _ hd ⟨Et ak (by rw [anU]),by rw [aA (aU npd),ak];rfl⟩ fun b o e hb=>?_
  rw [aA hb,aA (aq e hd),aA hb]
  exact e
noncomputable def ain (A:Ad) (sg:Bool):Sp:=fun vs H Q _=>∃ (p dx l:Addr) (s t w:Int) (q:Q4),vs=[.ref p,.int t,.int w]/\Bn A H p dx l s q/\0<=t/\t<2 ^ 64/\∀ (l':Addr) (H':Hp),Bn A H' p dx l' s (addQ q (pwQ t (if sg then -w else w)))->But p H H'->H l'=none->Q .non H'
theorem ok'27 (T:Tx K mg A):cB P w K mg base CX0 2 A.YB A.sS Q2 (ain A false):=by
 k_dat (T.F'27.ok,Ld,s) "a"
 ·obtain ⟨p,dx,l,sp,t,w,q,rfl,_⟩:=h
  rfl
 ·obtain ⟨p,dx,l,sp,t,w,q,rfl,hb,t0,t1,k⟩:=h
  refine ⟨_,(aC (aV (pv 0) (aF (akY T) tb_g% T.F'25 aL (aj (pf 0) (aj (pv 1) (aj (pv 2) au)))) rfl)),?_⟩
  refine ⟨_,rfl,rdF hb.o T.mX T.xO (Dh _ _) ⟨_,rfl,_,rfl,l,t,w,q,rfl,hb.l,t0,t1,fun l' H1 nl' f1 s1=>?_⟩⟩
  refine ⟨_,rfl,p,_,dx,_,rfl,s1 _ _ hb.o,T.mX,T.xO,(by show 2<1000;decide),?_⟩
  rw [yd]
  have npl:l'≠p:=aU (aq hb.o nl')
  exact k l' _ ⟨ak,by rw [aA npl];exact f1⟩ (fun b o e m=>by rw [aA m];exact s1 _ _ e) nl'
theorem ok'28 (T:Tx K mg A):cB P w K mg base CX0 2 A.YC A.pP Q2 (ain A true):=by
 k_dat (T.F'28.ok,Hl,s) "a"
 ·obtain ⟨p,dx,l,sp,t,w,q,rfl,_⟩:=h
  rfl
 ·obtain ⟨p,dx,l,sp,t,w,q,rfl,hb,t0,t1,k⟩:=h
  refine ⟨_,(aC (aV (pv 0) (aF (akY T) tb_g% T.F'25 aL (aj (pf 0) (aj (pv 1) (aj (aaA Q7 (pv 2)) au)))) rfl)),?_⟩
  refine ⟨_,rfl,rdF hb.o T.mX T.xO (Dh _ _) ⟨_,rfl,_,rfl,_,rfl,l,t,-w,q,rfl,hb.l,t0,t1,fun l' H1 nl' f1 s1=>?_⟩⟩
  refine ⟨_,rfl,p,_,dx,_,rfl,s1 _ _ hb.o,T.mX,T.xO,(by show 2<1000;decide),?_⟩
  rw [yd]
  have npl:l'≠p:=aU (aq hb.o nl')
  exact k l' _ ⟨ak,by rw [aA npl];exact f1⟩ (fun b o e m=>by rw [aA m];exact s1 _ _ e) nl'
noncomputable def kf (aD aH aN bZ cg fV cj aX cu aO:V):List (Str × V):=[("room",aD),("reach",aH),("span",aN),("came",bZ),("went",cg),("up",fV),("down",cj),("window",aX),("seen",cu),("balance",aO)]
theorem yI (aD aH aN bZ cg fV cj aX cu aO:V):(kf aD aH aN bZ cg fV cj aX cu aO).lookup ("room" : Str)=some aD:=by rfl
theorem tZ (aD aH aN bZ cg fV cj aX cu aO:V):(kf aD aH aN bZ cg fV cj aX cu aO).lookup ("reach" : Str)=some aH:=by rfl
theorem rE (aD aH aN bZ cg fV cj aX cu aO:V):(kf aD aH aN bZ cg fV cj aX cu aO).lookup ("span" : Str)=some aN:=by rfl
theorem Ii (aD aH aN bZ cg fV cj aX cu aO:V):(kf aD aH aN bZ cg fV cj aX cu aO).lookup ("came" : Str)=some bZ:=by rfl
theorem Ij (aD aH aN bZ cg fV cj aX cu aO:V):(kf aD aH aN bZ cg fV cj aX cu aO).lookup ("went" : Str)=some cg:=by rfl
theorem abl (aD aH aN bZ cg fV cj aX cu aO:V):(kf aD aH aN bZ cg fV cj aX cu aO).lookup ("up" : Str)=some fV:=by rfl
theorem Ik (aD aH aN bZ cg fV cj aX cu aO:V):(kf aD aH aN bZ cg fV cj aX cu aO).lookup ("down" : Str)=some cj:=by rfl
theorem oO (aD aH aN bZ cg fV cj aX cu aO:V):(kf aD aH aN bZ cg fV cj aX cu aO).lookup ("window" : Str)=some aX:=by rfl
theorem yJ (aD aH aN bZ cg fV cj aX cu aO:V):(kf aD aH aN bZ cg fV cj aX cu aO).lookup ("seen" : Str)=some cu:=by rfl
theorem qg (aD aH aN bZ cg fV cj aX cu aO:V):(kf aD aH aN bZ cg fV cj aX cu aO).lookup ("balance" : Str)=some aO:=by rfl
theorem anW (aD aH aN bZ cg fV cj aX cu aO:V):bV "balance" aO (bV "seen" cu (bV "window" aX (bV "down" cj (bV "up" fV (bV "went" cg (bV "came" bZ (bV "span" aN (bV "reach" aH (bV "room" aD [])))))))))=kf aD aH aN bZ cg fV cj aX cu aO:=by
 unfold kf
 walk_at "rec"
theorem Vp (aD aH aN bZ cg fV cj aX cu aO y:V):bV "came" y (kf aD aH aN bZ cg fV cj aX cu aO)=kf aD aH aN y cg fV cj aX cu aO:=by
 unfold kf
 walk_at "rec"
theorem Vq (aD aH aN bZ cg fV cj aX cu aO y:V):bV "went" y (kf aD aH aN bZ cg fV cj aX cu aO)=kf aD aH aN bZ y fV cj aX cu aO:=by
 unfold kf
 walk_at "rec"
theorem ac8 (aD aH aN bZ cg fV cj aX cu aO y:V):bV "up" y (kf aD aH aN bZ cg fV cj aX cu aO)=kf aD aH aN bZ cg y cj aX cu aO:=by
 unfold kf
 walk_at "rec"
theorem Vr (aD aH aN bZ cg fV cj aX cu aO y:V):bV "down" y (kf aD aH aN bZ cg fV cj aX cu aO)=kf aD aH aN bZ cg fV y aX cu aO:=by
 unfold kf
 walk_at "rec"
theorem Mt (aD aH aN bZ cg fV cj aX cu aO y:V):bV "window" y (kf aD aH aN bZ cg fV cj aX cu aO)=kf aD aH aN bZ cg fV cj y cu aO:=by
 unfold kf
 walk_at "rec"
theorem Vs (aD aH aN bZ cg fV cj aX cu aO y:V):bV "seen" y (kf aD aH aN bZ cg fV cj aX cu aO)=kf aD aH aN bZ cg fV cj aX y aO:=by
 unfold kf
 walk_at "rec"
theorem Lg (aD aH aN bZ cg fV cj aX cu aO y:V):bV "balance" y (kf aD aH aN bZ cg fV cj aX cu aO)=kf aD aH aN bZ cg fV cj aX cu y:=by
 unfold kf
 walk_at "rec"
theorem kfN {aD aH aN bZ cg fV cj aX cu aO:V} (h:m∉[("room" : Str),("reach" : Str),("span" : Str),("came" : Str),("went" : Str),("up" : Str),("down" : Str),("window" : Str),("seen" : Str),("balance" : Str)]):(kf aD aH aN bZ cg fV cj aX cu aO).lookup m=none:=by
 simp only [cP,iW,or_false,not_or] at h
 obtain ⟨vf,CZ,Lf,anY,anZ,h_up,an0,aio,an1,ac9⟩:=h
 unfold kf
 rw [cH vf,cH CZ,cH Lf,cH anY,cH anZ,cH h_up,cH an0,cH aio,cH an1,cH ac9]
 rfl
structure Fq where
 (p dx d:Addr) (t l:Int) (c:Tab)
variable {f:Fq}
structure Rs where
 (dx a:Addr) (bs:List Addr) (r tt ov un tn:Int) (mi ma:Option Int) (ls:RG.Ls)
variable {g:Rs}
noncomputable abbrev RnX (A:Ad) (H:Hp) (p:Addr) (x:Rs):Prop:=Rn A H p x.dx x.a x.bs x.r x.tt x.ov x.un x.tn x.mi x.ma x.ls
structure Ru where
 (p:Addr) (x:Rs)
structure Wi where
 (p dx l:Addr) (c:Int) (ps:List Bp)
structure Di where
 (p dx l:Addr) (n v:Int) (C:List Int)
structure Ba where
 (p dx l:Addr) (q:Q4)
structure KS where
 (k dk:Addr) (room:Nat) (reach span:Int) (cm wn:Fq) (up dn:Ru) (wi:Wi) (di:Di) (ba:Ba)
variable {x y x' z y':KS} {rows:List (List KS)}
structure sX (A:Ad) (H:Hp) (room:Nat) (f:Fq):Prop where
 o:H f.p=some (.ins A.iG f.dx (fl room f.t f.l f.d))
 d:H f.d=some (.dK (emb f.c))
theorem sX.same (h:sX A H room f) (s:Same H H'):sX A H' room f:=⟨s _ _ h.o,s _ _ h.d⟩
theorem sX.but {q C:Addr} {fs:List (Str × V)} (h:sX A H room f) (s:L2.But q H H') (hq:H q=some (.ins C e fs)) (n:f.p≠q):sX A H' room f :=
 ⟨s _ _ h.o n,s _ _ h.d (iw h.d hq (by intro z;cases z))⟩
noncomputable def KS.all (x:KS):List Addr:=[x.k,x.cm.p,x.wn.p,x.up.p,x.dn.p,x.wi.p,x.di.p,x.ba.p]
structure Kp (A:Ad) (H:Hp) (x:KS):Prop where
 o:H x.k=some (.ins A.fZ x.dk (kf (.int x.room) (.int x.reach) (.int x.span) (.ref x.cm.p) (.ref x.wn.p) (.ref x.up.p) (.ref x.dn.p) (.ref x.wi.p) (.ref x.di.p) (.ref x.ba.p)))
 cm:sX A H x.room x.cm
 wn:sX A H x.room x.wn
 up:RnX A H x.up.p x.up.x
 dn:RnX A H x.dn.p x.dn.x
 wi:Wn A H x.wi.p x.wi.dx x.wi.l x.room x.reach x.wi.c x.wi.ps
 di:Dn A H x.di.p x.di.dx x.di.l x.room x.di.n x.di.v (srt (My.up x.di.v x.di.C))
 ba:Bn A H x.ba.p x.ba.dx x.ba.l x.span x.ba.q
 nd:x.all.Nodup
theorem Kp.same (h:Kp A H x) (s:Same H H'):Kp A H' x:=⟨s _ _ h.o,h.cm.same s,h.wn.same s,h.up.same s,h.dn.same s,h.wi.same s,h.di.same s,h.ba.same s,h.nd⟩
/-- the eight are eight -/
structure Ap (x:KS):Prop where
 k1:x.k≠x.cm.p
 k2:x.k≠x.wn.p
 k3:x.k≠x.up.p
 k4:x.k≠x.dn.p
 k5:x.k≠x.wi.p
 k6:x.k≠x.di.p
 k7:x.k≠x.ba.p
 c2:x.cm.p≠x.wn.p
 c3:x.cm.p≠x.up.p
 c4:x.cm.p≠x.dn.p
 c5:x.cm.p≠x.wi.p
 c6:x.cm.p≠x.di.p
 c7:x.cm.p≠x.ba.p
 w3:x.wn.p≠x.up.p
 w4:x.wn.p≠x.dn.p
 w5:x.wn.p≠x.wi.p
 w6:x.wn.p≠x.di.p
 w7:x.wn.p≠x.ba.p
 u4:x.up.p≠x.dn.p
 u5:x.up.p≠x.wi.p
 u6:x.up.p≠x.di.p
 u7:x.up.p≠x.ba.p
 d5:x.dn.p≠x.wi.p
 d6:x.dn.p≠x.di.p
 d7:x.dn.p≠x.ba.p
 i6:x.wi.p≠x.di.p
 i7:x.wi.p≠x.ba.p
 s7:x.di.p≠x.ba.p
theorem Kp.ap (h:Kp A H x):Ap x:=by
 have n:=h.nd
 unfold KS.all at n
 simp only [g8,cP,iW,or_false,not_or,oR,and_true,not_false_eq_true] at n
 obtain ⟨⟨k1,k2,k3,k4,k5,k6,k7⟩,⟨c2,c3,c4,c5,c6,c7⟩,⟨w3,w4,w5,w6,w7⟩,⟨u4,u5,u6,u7⟩,⟨d5,d6,d7⟩,⟨i6,i7⟩,s7⟩:=n
 exact ⟨k1,k2,k3,k4,k5,k6,k7,c2,c3,c4,c5,c6,c7,w3,w4,w5,w6,w7,u4,u5,u6,u7,d5,d6,d7,i6,i7,s7⟩
open MK
theorem Vt (r e:Int) (bs:List WN.Box):(cZ r e bs).length<=bs.length:=by
 unfold cZ
 rw [yO]
 have h1:=WN.UJ r (bs.filter fun b=>decide (e<b.l)).reverse
 rw [yO] at h1
 exact gM h1 (vX _ _)
theorem jf {r T ov un:Int} (g:RG.Good r T ov un ls) (h:T<=1000000000000*n) (hn:n<=63):ls.length<=60/\RG.val ls<2 ^ 400:=by
 have e:(2:Int) ^ 60=1152921504606846976:=by decide
 refine ⟨g.len (by rw [e];lia),?_⟩
 have:=g.vl
 have e:(1152921504606846976:Nat)<2 ^ 400:=by decide
 lia
noncomputable def KS.pts (x:KS):List Addr:=[x.cm.p,x.wn.p,x.up.p,x.dn.p,x.wi.p,x.di.p,x.ba.p]
structure Pp (A:Ad) (H:Hp) (x:KS):Prop where
 cm:sX A H x.room x.cm
 wn:sX A H x.room x.wn
 up:RnX A H x.up.p x.up.x
 dn:RnX A H x.dn.p x.dn.x
 wi:Wn A H x.wi.p x.wi.dx x.wi.l x.room x.reach x.wi.c x.wi.ps
 di:Dn A H x.di.p x.di.dx x.di.l x.room x.di.n x.di.v (srt (My.up x.di.v x.di.C))
 ba:Bn A H x.ba.p x.ba.dx x.ba.l x.span x.ba.q
 nd:x.pts.Nodup
theorem Kp.pp (h:Kp A H x):Pp A H x:=⟨h.cm,h.wn,h.up,h.dn,h.wi,h.di,h.ba,(g8.mp h.nd).2⟩
theorem Kp.nk (h:Kp A H x):x.k∉x.pts:=(g8.mp h.nd).1
theorem Pp.kp (h:Pp A H x) (o:H x.k=some (.ins A.fZ x.dk (kf (.int x.room) (.int x.reach) (.int x.span) (.ref x.cm.p) (.ref x.wn.p) (.ref x.up.p) (.ref x.dn.p) (.ref x.wi.p) (.ref x.di.p) (.ref x.ba.p)))) (n:x.k∉x.pts):Kp A H x :=
 ⟨o,h.cm,h.wn,h.up,h.dn,h.wi,h.di,h.ba,g8.mpr ⟨n,h.nd⟩⟩
theorem Pp.but {q C:Addr} {fs:List (Str × V)} (h:Pp A H x) (b:L2.But q H H') (hq:H q=some (.ins C e fs)) (n:q∉x.pts):Pp A H' x:=by
 unfold KS.pts at n
 simp only [cP,iW,or_false,not_or] at n
 obtain ⟨n1,n2,n3,n4,n5,n6,n7⟩:=n
 exact ⟨h.cm.but b hq (aU n1),h.wn.but b hq (aU n2),h.up.but b hq (aU n3),h.dn.but b hq (aU n4),h.wi.but b hq (aU n5),h.di.but b hq (aU n6),h.ba.but b hq (aU n7),h.nd⟩
/-- the seven are seven -/
structure Ap7 (x:KS):Prop where
 c:x.cm.p≠x.wn.p/\x.cm.p≠x.up.p/\x.cm.p≠x.dn.p/\x.cm.p≠x.wi.p/\x.cm.p≠x.di.p/\x.cm.p≠x.ba.p
 w:x.wn.p≠x.up.p/\x.wn.p≠x.dn.p/\x.wn.p≠x.wi.p/\x.wn.p≠x.di.p/\x.wn.p≠x.ba.p
 u:x.up.p≠x.dn.p/\x.up.p≠x.wi.p/\x.up.p≠x.di.p/\x.up.p≠x.ba.p
 d:x.dn.p≠x.wi.p/\x.dn.p≠x.di.p/\x.dn.p≠x.ba.p
 i:x.wi.p≠x.di.p/\x.wi.p≠x.ba.p
 s:x.di.p≠x.ba.p
theorem Pp.ap (h:Pp A H x):Ap7 x:=by
 have n:=h.nd
 unfold KS.pts at n
 simp only [g8,cP,iW,or_false,not_or,oR,and_true,not_false_eq_true] at n
 obtain ⟨c,w,u,d,i,s⟩:=n
 exact ⟨c,w,u,d,i,s⟩
theorem Pp.setC (h:Pp A H x) (e:f.p=x.cm.p) (b:L2.But x.cm.p H H') (hf:sX A H' x.room f):Pp A H' { x with cm:=f }:=by
 have a:=h.ap
 have q:=h.cm.o
 obtain ⟨a1,a2,a3,a4,a5,a6⟩:=a.c
 exact ⟨hf,h.wn.but b q (aU a1),h.up.but b q (aU a2),h.dn.but b q (aU a3),h.wi.but b q (aU a4),h.di.but b q (aU a5),h.ba.but b q (aU a6),by
  show [f.p,x.wn.p,x.up.p,x.dn.p,x.wi.p,x.di.p,x.ba.p].Nodup
  rw [e];exact h.nd⟩
theorem Pp.setW (h:Pp A H x) (e:f.p=x.wn.p) (b:L2.But x.wn.p H H') (hf:sX A H' x.room f):Pp A H' { x with wn:=f }:=by
 have a:=h.ap
 have q:=h.wn.o
 obtain ⟨a2,a3,a4,a5,a6⟩:=a.w
 exact ⟨h.cm.but b q a.c.1,hf,h.up.but b q (aU a2),h.dn.but b q (aU a3),h.wi.but b q (aU a4),h.di.but b q (aU a5),h.ba.but b q (aU a6),by
  show [x.cm.p,f.p,x.up.p,x.dn.p,x.wi.p,x.di.p,x.ba.p].Nodup
  rw [e];exact h.nd⟩
theorem Pp.setU (h:Pp A H x) {f:Ru} (e:f.p=x.up.p) (b:L2.But x.up.p H H') (hf:RnX A H' f.p f.x):Pp A H' { x with up:=f }:=by
 have a:=h.ap
 have q:=h.up.o
 obtain ⟨a3,a4,a5,a6⟩:=a.u
 exact ⟨h.cm.but b q a.c.2.1,h.wn.but b q a.w.1,hf,h.dn.but b q (aU a3),h.wi.but b q (aU a4),h.di.but b q (aU a5),h.ba.but b q (aU a6),by
  show [x.cm.p,x.wn.p,f.p,x.dn.p,x.wi.p,x.di.p,x.ba.p].Nodup
  rw [e];exact h.nd⟩
theorem Pp.setD (h:Pp A H x) {f:Ru} (e:f.p=x.dn.p) (b:L2.But x.dn.p H H') (hf:RnX A H' f.p f.x):Pp A H' { x with dn:=f }:=by
 have a:=h.ap
 have q:=h.dn.o
 obtain ⟨a4,a5,a6⟩:=a.d
 exact ⟨h.cm.but b q a.c.2.2.1,h.wn.but b q a.w.2.1,h.up.but b q a.u.1,hf,h.wi.but b q (aU a4),h.di.but b q (aU a5),h.ba.but b q (aU a6),by
  show [x.cm.p,x.wn.p,x.up.p,f.p,x.wi.p,x.di.p,x.ba.p].Nodup
  rw [e];exact h.nd⟩
theorem Pp.setI (h:Pp A H x) {f:Wi} (e:f.p=x.wi.p) (b:L2.But x.wi.p H H') (hf:Wn A H' f.p f.dx f.l x.room x.reach f.c f.ps):Pp A H' { x with wi:=f }:=by
 have a:=h.ap
 have q:=h.wi.o
 exact ⟨h.cm.but b q a.c.2.2.2.1,h.wn.but b q a.w.2.2.1,h.up.but b q a.u.2.1,h.dn.but b q a.d.1,hf,h.di.but b q (aU a.i.1),h.ba.but b q (aU a.i.2),by
  show [x.cm.p,x.wn.p,x.up.p,x.dn.p,f.p,x.di.p,x.ba.p].Nodup
  rw [e];exact h.nd⟩
theorem Pp.setS (h:Pp A H x) {f:Di} (e:f.p=x.di.p) (b:L2.But x.di.p H H') (hf:Dn A H' f.p f.dx f.l x.room f.n f.v (srt (My.up f.v f.C))):Pp A H' { x with di:=f }:=by
 have a:=h.ap
 have q:=h.di.o
 exact ⟨h.cm.but b q a.c.2.2.2.2.1,h.wn.but b q a.w.2.2.2.1,h.up.but b q a.u.2.2.1,h.dn.but b q a.d.2.1,h.wi.but b q a.i.1,hf,h.ba.but b q (aU a.s),by
  show [x.cm.p,x.wn.p,x.up.p,x.dn.p,x.wi.p,f.p,x.ba.p].Nodup
  rw [e];exact h.nd⟩
theorem Pp.setB (h:Pp A H x) {f:Ba} (e:f.p=x.ba.p) (b:L2.But x.ba.p H H') (hf:Bn A H' f.p f.dx f.l x.span f.q):Pp A H' { x with ba:=f }:=by
 have a:=h.ap
 have q:=h.ba.o
 exact ⟨h.cm.but b q a.c.2.2.2.2.2,h.wn.but b q a.w.2.2.2.2,h.up.but b q a.u.2.2.2,h.dn.but b q a.d.2.2,h.wi.but b q a.i.2,h.di.but b q a.s,hf,by
  show [x.cm.p,x.wn.p,x.up.p,x.dn.p,x.wi.p,x.di.p,f.p].Nodup
  rw [e];exact h.nd⟩
/-- nothing but these parts has changed -/
structure Far (A:Ad) (ps:List Addr) (H H':Hp):Prop where
 pb:∀ b o,H b=some o->b∉ps->H' b=some o
 py:∀ y:KS,Pp A H y->(∀ b∈y.pts,b∉ps)->Pp A H' y
theorem Far.of {ps:List Addr} {C:Addr} {fs:List (Str × V)} (m:p∈ps) (hq:H p=some (.ins C e fs)) (b:L2.But p H H'):Far A ps H H' :=
 ⟨fun c o e n=>b c o e fun z=>n (by rw [z];exact m),fun y h d=>h.but b hq fun z=>d p z m⟩
theorem Far.trans {ps:List Addr} (a:Far A ps H H1) (b:Far A ps H1 H'):Far A ps H H':=⟨fun c o e n=>b.pb c o (a.pb c o e n) n,fun y h d=>b.py y (a.py y h d) d⟩
noncomputable def FS (room:Nat) (th w:Int) (f g:Fq):Prop:=∃ cut,gj room (put f.c th (low f.c th+w)) g.c cut/\g.t=f.t+w/\g.l=f.l+cut
structure RS (th w:Int) (f g:Rs):Prop where
 r:g.r=f.r
 tt:g.tt=f.tt+w
 mi:g.mi=lo2 f.mi (some th)
 ma:g.ma=hi2 f.ma (some th)
 st:RG.Stl f.r 0 f.tn f.ov f.un (RG.gG th f.ls w.toNat) g.ls g.tn g.ov g.un
noncomputable def WS (room:Nat) (reach c:Int) (bs:List WN.Box) (g:Wi):Prop:=g.c=c/\bx g.ps=cZ room (c-reach) bs
noncomputable def DS (room:Nat) (th:Int) (f g:Di):Prop:=g.n=f.n+1/\g.C=came f.C th/\Lvl room f.v g.v (came f.C th)
structure SB (x x':KS):Prop where
 room:x'.room=x.room
 reach:x'.reach=x.reach
 span:x'.span=x.span
 pts:x'.pts=x.pts
 k:x'.k=x.k
 dk:x'.dk=x.dk
structure SP (th w:Int) (x x':KS):Prop where
 sb:SB x x'
 cm:FS x.room th w x.cm x'.cm
 wn:x'.wn=x.wn
 up:RS th w x.up.x x'.up.x
 dn:x'.dn=x.dn
 wi:WS x.room x.reach (x.wi.c+1) (bx x.wi.ps++[⟨x.wi.c+1,x.wi.c+1,w⟩]) x'.wi
 di:DS x.room th x.di x'.di
 ba:x'.ba.q=if th<x.span then addQ x.ba.q (pwQ th w) else x.ba.q
structure ST (th w:Int) (x x':KS):Prop where
 sb:SB x x'
 cm:x'.cm=x.cm
 wn:FS x.room th w x.wn x'.wn
 up:x'.up=x.up
 dn:RS th w x.dn.x x'.dn.x
 wi:WS x.room x.reach (x.wi.c+1) (bx x.wi.ps) x'.wi
 di:x'.di=x.di
 ba:x'.ba.q=if th<x.span then addQ x.ba.q (pwQ th (-w)) else x.ba.q
structure SI (w:Int) (x x':KS):Prop where
 sb:SB x x'
 cm:x'.cm=x.cm
 wn:x'.wn=x.wn
 up:x'.up=x.up
 dn:x'.dn=x.dn
 wi:WS x.room x.reach (x.wi.c+w) (bx x.wi.ps) x'.wi
 di:x'.di=x.di
 ba:x'.ba=x.ba
/-- the same data -/
structure EF (f g:Fq):Prop where
 t:f.t=g.t
 l:f.l=g.l
 c:f.c=g.c
structure ER (f g:Rs):Prop where
 r:f.r=g.r
 tt:f.tt=g.tt
 ov:f.ov=g.ov
 un:f.un=g.un
 tn:f.tn=g.tn
 mi:f.mi=g.mi
 ma:f.ma=g.ma
 ls:f.ls=g.ls
structure EW (f g:Wi):Prop where
 c:f.c=g.c
 b:bx f.ps=bx g.ps
structure ED (f g:Di):Prop where
 n:f.n=g.n
 v:f.v=g.v
 C:f.C=g.C
structure Eqp (x y:KS):Prop where
 room:x.room=y.room
 reach:x.reach=y.reach
 span:x.span=y.span
 cm:EF x.cm y.cm
 wn:EF x.wn y.wn
 up:ER x.up.x y.up.x
 dn:ER x.dn.x y.dn.x
 wi:EW x.wi y.wi
 di:ED x.di y.di
 ba:x.ba.q=y.ba.q
theorem FS.eq {w:Int} {g f' g':Fq} (a:FS room th w f g) (b:FS room th w f' g') (e:EF f f'):EF g g':=by
 obtain ⟨c1,a1,a2,a3⟩:=a
 obtain ⟨c2,b1,b2,b3⟩:=b
 rw [e.c] at a1
 have u:=a1.uniq b1
 exact ⟨by rw [a2,b2,e.t],by rw [a3,b3,e.l,u.2],u.1⟩
theorem RS.eq {w:Int} {f f' g':Rs} (a:RS th w f g) (b:RS th w f' g') (e:ER f f'):ER g g':=by
 have s:=a.st
 rw [e.r,e.tn,e.ov,e.un,e.ls] at s
 obtain ⟨u1,u2,u3,u4⟩:=s.uniq b.st
 exact ⟨by rw [a.r,b.r,e.r],by rw [a.tt,b.tt,e.tt],u3.symm,u4.symm,u2.symm,by rw [a.mi,b.mi,e.mi],by rw [a.ma,b.ma,e.ma],u1.symm⟩
theorem DS.eq {f g f' g':Di} (a:DS room th f g) (b:DS room th f' g') (e:ED f f'):ED g g':=by
 obtain ⟨a1,a2,a3⟩:=a
 obtain ⟨b1,b2,b3⟩:=b
 rw [e.v,e.C] at a3
 exact ⟨by rw [a1,b1,e.n],a3.uniq b3,by rw [a2,b2,e.C]⟩
theorem Eqp.put {w:Int} (e:Eqp x y) (a:SP th w x x') (b:SP th w y y'):Eqp x' y':=by
 have c:=a.cm
 have d:=a.di
 rw [e.room] at c d
 exact ⟨by rw [a.sb.room,b.sb.room,e.room],by rw [a.sb.reach,b.sb.reach,e.reach],by rw [a.sb.span,b.sb.span,e.span],c.eq b.cm e.cm,by rw [a.wn,b.wn];exact e.wn,a.up.eq b.up e.up,by rw [a.dn,b.dn];exact e.dn,
  ⟨by rw [a.wi.1,b.wi.1,e.wi.c],by rw [a.wi.2,b.wi.2,e.wi.c,e.wi.b,e.room,e.reach]⟩,d.eq b.di e.di,by rw [a.ba,b.ba,e.span,e.ba]⟩
theorem Eqp.take {w:Int} (e:Eqp x y) (a:ST th w x x') (b:ST th w y y'):Eqp x' y':=by
 have c:=a.wn
 rw [e.room] at c
 exact ⟨by rw [a.sb.room,b.sb.room,e.room],by rw [a.sb.reach,b.sb.reach,e.reach],by rw [a.sb.span,b.sb.span,e.span],by rw [a.cm,b.cm];exact e.cm,c.eq b.wn e.wn,by rw [a.up,b.up];exact e.up,a.dn.eq b.dn e.dn,
  ⟨by rw [a.wi.1,b.wi.1,e.wi.c],by rw [a.wi.2,b.wi.2,e.wi.c,e.wi.b,e.room,e.reach]⟩,by rw [a.di,b.di];exact e.di,by rw [a.ba,b.ba,e.span,e.ba]⟩
theorem Eqp.idle {w:Int} (e:Eqp x y) (a:SI w x x') (b:SI w y y'):Eqp x' y' :=
 ⟨by rw [a.sb.room,b.sb.room,e.room],by rw [a.sb.reach,b.sb.reach,e.reach],by rw [a.sb.span,b.sb.span,e.span],by rw [a.cm,b.cm];exact e.cm,by rw [a.wn,b.wn];exact e.wn,by rw [a.up,b.up];exact e.up,by rw [a.dn,b.dn];exact e.dn,
  ⟨by rw [a.wi.1,b.wi.1,e.wi.c],by rw [a.wi.2,b.wi.2,e.wi.c,e.wi.b,e.room,e.reach]⟩,by rw [a.di,b.di];exact e.di,by rw [a.ba,b.ba,e.ba]⟩
theorem R6 {room:Int}:∀ {ls:RG.Ls} (h:Nat) (tn ov un:Int),(∀ l∈ls,(l.length:Int)<=room)->RG.Stl room h tn ov un ls ls tn ov un
 | [],h,tn,ov,un,_=>.nil h tn ov un
 | l::ls,h,tn,ov,un,hs=>.keep (hs l eN) (R6 (h+1) tn ov un fun k m=>hs k (fB _ m))
theorem abm {c b:Tab} {cut:Int} (h:gj room c b cut):b.length<=c.length:=by
 unfold gj at h
 split at h
 ·rw [h.2];exact bh _
 ·rw [h.2];unfold cY;rw [aZ];exact vX _ _
structure Gf (room:Nat) (f:Fq) (n:Nat):Prop where
 ok:∃ W,Ok room f.c f.t f.l W
 t:f.t<=1000000000000*n
 k:f.c.length<=n
structure Gr (room:Nat) (f:Rs) (n:Nat):Prop where
 r:f.r=room
 g:RG.Good f.r f.tt f.ov f.un f.ls
 t:f.tt<=1000000000000*n
 sm:room<=15\/∀ l∈f.ls,l.length<=n
structure Kh (x:KS) (n:Nat):Prop where
 r2:2<=x.room
 r64:x.room<=64
 rr:x.room<=15\/x.room=64
 cm:Gf x.room x.cm n
 wn:Gf x.room x.wn n
 up:Gr x.room x.up.x n
 dn:Gr x.room x.dn.x n
 wl:x.wi.ps.length<=n
 dl:rD x.room x.di.v x.di.C
 dc:x.di.C.length<=n
 few:n<=63
theorem Gf.add {g:Fq} {w:Int} (h:Gf room f n) (s:FS room th w f g) (w1:1<=w) (w2:w<=1000000000000):Gf room g (n+1):=by
 obtain ⟨cut,a,b,c⟩:=s
 obtain ⟨W,ok⟩:=h.ok
 have:=h.t
 exact ⟨⟨_,by rw [b,c];exact (ok.add (k:=th) w1).fit a⟩,by rw [b];lia,by have:=abm a;have:=Rm f.c th (low f.c th+w);have:=h.k;lia⟩
theorem Gf.next (h:Gf room f n):Gf room f (n+1):=⟨h.ok,by have:=h.t;lia,Qf h.k⟩
theorem Gr.add {f:Rs} {w:Int} (h:Gr room f n) (s:RS th w f g) (w1:1<=w) (w2:w<=1000000000000) (rr:room<=15\/room=64) (hn:n<63):Gr room g (n+1):=by
 have:=h.t
 obtain ⟨g',_⟩:=h.g.add w1 s.st
 refine ⟨by rw [s.r,h.r],by rw [s.r,s.tt];exact g',by rw [s.tt];lia,rr.imp id fun z=>?_⟩
 have sl:=h.sm.resolve_left tb_g%
 have wl:=RG.Ks th w.toNat f.ls sl
 have hr:=h.r
 obtain ⟨e,_⟩:=(R6 0 f.tn f.ov f.un fun l m=>by have:=wl l m;lia).uniq s.st
 rw [e];exact wl
theorem Gr.next {f:Rs} (h:Gr room f n):Gr room f (n+1):=⟨h.r,h.g,by have:=h.t;lia,h.sm.imp id fun z l m=>Qf (z l m)⟩
theorem Gr.le62 {f:Rs} (h:Gr room f n) (rr:room<=15\/room=64) (hn:n<63):(∀ l∈f.ls,l.length<=62)/\((∀ l∈f.ls,l.length<=30)\/∀ l∈f.ls,(l.length:Int)+1<=f.r):=by
 have e:=h.r
 rcases rr with z | z
 ·exact ⟨fun l m=>by have:=h.g.sm l m;lia,.inl fun l m=>by have:=h.g.sm l m;lia⟩
 ·have sl:=h.sm.resolve_left tb_g%
  exact ⟨fun l m=>by have:=sl l m;lia,.inr fun l m=>by have:=sl l m;lia⟩
theorem WS.len {c:Int} {bs:List WN.Box} {g:Wi} (h:WS room reach c bs g):g.ps.length<=bs.length:=by
 have h1:=Vt room (c-reach) bs
 rw [<- h.2,je] at h1
 exact h1
theorem Kh.put {w:Int} (h:Kh x n) (hn:n<63) (s:SP th w x x') (w1:1<=w) (w2:w<=1000000000000):Kh x' (n+1):=by
 have r:=s.sb.room
 refine ⟨by rw [r];exact h.r2,by rw [r];exact h.r64,by rw [r];exact h.rr,by rw [r];exact h.cm.add s.cm w1 w2,by rw [r,s.wn];exact h.wn.next,by rw [r];exact h.up.add s.up w1 w2 h.rr hn,by rw [r,s.dn];exact h.dn.next,?_,?_,?_,hn⟩
 ·have:=s.wi.len
  rw [cV,je] at this
  have l1:=h.wl
  exact gM this (by show x.wi.ps.length+1<=n+1;lia)
 ·rw [r,s.di.2.1];exact h.dl.lvl s.di.2.2 fun w=>ajX
 ·rw [s.di.2.1];have:=(aij x.di.C th).2;have:=h.dc;lia
theorem Kh.take {w:Int} (h:Kh x n) (hn:n<63) (s:ST th w x x') (w1:1<=w) (w2:w<=1000000000000):Kh x' (n+1):=by
 have r:=s.sb.room
 refine ⟨by rw [r];exact h.r2,by rw [r];exact h.r64,by rw [r];exact h.rr,by rw [r,s.cm];exact h.cm.next,by rw [r];exact h.wn.add s.wn w1 w2,by rw [r,s.up];exact h.up.next,by rw [r];exact h.dn.add s.dn w1 w2 h.rr hn,?_,by rw [r,s.di];exact h.dl,by rw [s.di];have:=h.dc;lia,hn⟩
 have:=s.wi.len
 rw [je] at this
 have l1:=h.wl
 lia
theorem Kh.idle {w:Int} (h:Kh x n) (hn:n<63) (s:SI w x x'):Kh x' (n+1):=by
 have r:=s.sb.room
 refine ⟨by rw [r];exact h.r2,by rw [r];exact h.r64,by rw [r];exact h.rr,by rw [r,s.cm];exact h.cm.next,by rw [r,s.wn];exact h.wn.next,by rw [r,s.up];exact h.up.next,by rw [r,s.dn];exact h.dn.next,?_,by rw [r,s.di];exact h.dl,by rw [s.di];have:=h.dc;lia,hn⟩
 have:=s.wi.len
 rw [je] at this
 have l1:=h.wl
 lia
/-- two like a third -/
theorem EF.by {g z:Fq} (a:EF f z) (b:EF g z):EF f g:=⟨a.t.trans b.t.symm,a.l.trans b.l.symm,a.c.trans b.c.symm⟩
theorem ER.by {f z:Rs} (a:ER f z) (b:ER g z):ER f g:=⟨a.r.trans b.r.symm,a.tt.trans b.tt.symm,a.ov.trans b.ov.symm,a.un.trans b.un.symm,a.tn.trans b.tn.symm,a.mi.trans b.mi.symm,a.ma.trans b.ma.symm,a.ls.trans b.ls.symm⟩
theorem Eqp.by (a:Eqp x z) (b:Eqp y z):Eqp x y :=
 ⟨a.room.trans b.room.symm,a.reach.trans b.reach.symm,a.span.trans b.span.symm,a.cm.by b.cm,a.wn.by b.wn,a.up.by b.up,a.dn.by b.dn,⟨a.wi.c.trans b.wi.c.symm,a.wi.b.trans b.wi.b.symm⟩,⟨a.di.n.trans b.di.n.symm,a.di.v.trans b.di.v.symm,a.di.C.trans b.di.C.symm⟩,a.ba.trans b.ba.symm⟩
noncomputable def R0 (room:Nat):Rs:=⟨0,0,[],room,0,0,0,0,none,none,[]⟩
/-- the data of a keepsake to which nothing came -/
noncomputable def K0 (room:Nat) (reach span:Int):KS:=⟨0,0,room,reach,span,⟨0,0,0,0,0,[]⟩,⟨0,0,0,0,0,[]⟩,⟨0,R0 room⟩,⟨0,R0 room⟩,⟨0,0,0,0,[]⟩,⟨0,0,0,0,0,[]⟩,⟨0,0,0,Oj⟩⟩
theorem Kh.eq (h:Kh y n) (e:Eqp x y):Kh x n:=by
 have gf:∀ {f g:Fq},EF f g->Gf y.room g n->Gf x.room f n:=fun {f g} e1 g1=>⟨by rw [e.room,e1.t,e1.l,e1.c];exact g1.ok,by rw [e1.t];exact g1.t,by rw [e1.c];exact g1.k⟩
 have gr:∀ {f g:Rs},ER f g->Gr y.room g n->Gr x.room f n:=fun {f g} e1 g1=>⟨by rw [e.room,e1.r];exact g1.r,by rw [e1.r,e1.tt,e1.ov,e1.un,e1.ls];exact g1.g,by rw [e1.tt];exact g1.t,by rw [e.room,e1.ls];exact g1.sm⟩
 refine ⟨by rw [e.room];exact h.r2,by rw [e.room];exact h.r64,by rw [e.room];exact h.rr,gf e.cm h.cm,gf e.wn h.wn,gr e.up h.up,gr e.dn h.dn,?_,by rw [e.room,e.di.v,e.di.C];exact h.dl,by rw [e.di.C];exact h.dc,h.few⟩
 rw [<- je,e.wi.b,je];exact h.wl
theorem kh0 (reach span:Int) (r2:2<=room) (r64:room<=64) (ev:room % 2=0) (rr:room<=15\/room=64):Kh (K0 room reach span) 0:=by
 have ok0:Gf room ⟨0,0,0,0,0,[]⟩ 0:=⟨⟨_,Ok.empty room⟩,dY _,bh _⟩
 have g0:RG.Good (room:Int) 0 0 0 []:=RG.Good.new tb_g% tb_g% tb_g%
 exact ⟨r2,r64,rr,ok0,ok0,⟨rfl,g0,dY _,.inr fun l m=>(nomatch m)⟩,⟨rfl,g0,dY _,.inr fun l m=>(nomatch m)⟩,bh _,⟨dY _,by show ((0:Nat):Int)<=room;lia,fun w a b=>absurd a (by have b2:w<0:=b;lia)⟩,bh _,by decide⟩
open MK
noncomputable def KS.ems (x:KS):List Addr:=x.up.x.a::x.dn.x.a::x.wi.l::x.di.l::(x.up.x.bs++x.dn.x.bs)
noncomputable def Em (H:Hp) (x x':KS):Prop:=∀ c∈x'.ems,c∈x.ems\/H c=none
theorem Pp.live (h:Pp A H x):∀ b∈x.pts,H b≠none:=fun b m=>by
 unfold KS.pts at m
 simp only [cP,iW,or_false] at m
 rcases m with rfl | rfl | rfl | rfl | rfl | rfl | rfl
 ·rw [h.cm.o];intro z;cases z
 ·rw [h.wn.o];intro z;cases z
 ·rw [h.up.o];intro z;cases z
 ·rw [h.dn.o];intro z;cases z
 ·rw [h.wi.o];intro z;cases z
 ·rw [h.di.o];intro z;cases z
 ·rw [h.ba.o];intro z;cases z
theorem Far.none {ps:List Addr} (f:Far A ps H H1) (lv:∀ b∈ps,H1 b≠Option.none) (n:H1 c=Option.none):H c=Option.none:=by
 cases e:H c with
 | none=>rfl
 | some o =>
  exfalso
  by_cases m:c∈ps
  ·exact lv c m n
  ·rw [f.pb c o e m] at n;cases n
noncomputable def an2 (A:Ad):Sp:=fun vs H Q _=>∃ (x:KS) (n:Nat) (th w:Int),vs=[.ref x.k,.int th,.int w]/\Kp A H x/\Kh x n/\n<63/\0<=th/\th<1152921504606846976/\1<=w/\w<=1000000000000 /\
 ∀ (x':KS) (H':Hp),Kp A H' x'->SP th w x x'->Far A x.pts H H'->Em H x x'->Q .non H'
theorem aip (T:Tx K mg A):cB P w K mg base CX0 6 A.YD A.pQ Q2 (an2 A):=by
 k_dat (T.F'29.ok,Ho,s) "a"
 ·obtain ⟨x,n,th,w,rfl,_⟩:=h
  rfl
 ·obtain ⟨x,n,th,w,rfl,hK,hG,hn,th0,th1,w1,w2,q⟩:=h
  have e64:(2:Int) ^ 64=18446744073709551616:=by decide
  have r2:=hG.r2
  have r64:=hG.r64
  have lu:=jf hG.up.g hG.up.t hG.few
  have su:=hG.up.g.small
  have hrm:=hG.up.r
  obtain ⟨W,okf⟩:=hG.cm.ok
  refine ⟨_,(ao (bC (cI (pf 0) T.fK T.xW (akW T) tb_g% T.b'24 .nil aL (aj (pv 1) (aj (pv 2) au))))
   (ao (bC (cI (pf 0) T.bT T.GD (ok'8 T) tb_g% T.b'8 .nil aL (aj (pv 1) (aj (pv 2) au))))
   (ao (bC (cI (pf 0) T.dM T.RN (ok'12 T) tb_g% T.b'12 .nil aL (aj (pv 2) au)))
   (ao (bC (cI (pf 0) T.eV T.K6 (ok'19 T) tb_g% T.b'19 .nil aL (aj (pv 1) au)))
   (aC (dO (aQ vC (pv 1) (pf 0) (aY _)) (aC (bC (cI (pf 0) T.mX T.Mh (ok'27 T) tb_g% T.b'27 .nil aL (aj (pv 1) (aj (pv 2) au))))) cG)))))),?_⟩
  refine ⟨_,rfl,rdF hK.o T.bF T.xP (Ii ..) ⟨x.cm.p,x.cm.dx,_,rfl,hK.cm.o,abk _ _ _ _ tb_g% tb_g% tb_g% tb_g%,_,rfl,_,rfl,x.cm.p,x.cm.dx,x.cm.d,x.room,x.cm.t,x.cm.l,th,w,x.cm.c,rfl,hK.cm.o,hK.cm.d,okf.nd,okf.pos,w1,by have:=hG.cm.k;lia,fun d1 c1 cut H1 hd1 ft o1 e1 b1=>?_⟩⟩
  have P1:=hK.pp.setC (f:=⟨x.cm.p,x.cm.dx,d1,x.cm.t+w,x.cm.l+cut,c1⟩) rfl b1 ⟨o1,e1⟩
  have f1:Far A x.pts H H1:=Far.of (by simp [KS.pts]) hK.cm.o b1
  refine ⟨_,rfl,rdF (f1.pb _ _ hK.o hK.nk) T.bF T.xR (abl ..) ⟨x.up.p,x.up.x.dx,_,rfl,P1.up.o,rgN tb_g%,_,rfl,_,rfl,x.up.p,x.up.x.dx,x.up.x.a,x.up.x.bs,x.up.x.r,x.up.x.tt,x.up.x.ov,x.up.x.un,x.up.x.tn,th,w,x.up.x.mi,x.up.x.ma,x.up.x.ls,rfl,P1.up,hG.up.g.r2,hG.up.g.r64,by lia,by rw [e64];lia,by lia,(hG.up.le62 hG.rr hn).1,(hG.up.le62 hG.rr hn).2,lu.2,fun a' bs' out tn' ov' un' H2 st rn b2 na2 nb2=>?_⟩⟩
  have P2:=P1.setU (f:=⟨x.up.p,⟨x.up.x.dx,a',bs',x.up.x.r,x.up.x.tt+w,ov',un',tn',_,_,out⟩⟩) rfl b2 rn
  have f2:=f1.trans (Far.of (A:=A) (ps:=x.pts) (by simp [KS.pts]) P1.up.o b2)
  refine ⟨_,rfl,rdF (f2.pb _ _ hK.o hK.nk) T.bF T.sV (oO ..) ⟨x.wi.p,x.wi.dx,_,rfl,P2.wi.o,Og _ _ _ _ tb_g% tb_g% tb_g% tb_g%,_,rfl,x.wi.p,x.wi.dx,x.wi.l,x.room,x.reach,x.wi.c,w,x.wi.ps,rfl,P2.wi,by have:=hG.wl;lia,by lia,by lia,fun l3 ps3 H3 eb3 wn3 b3 nl3=>?_⟩⟩
  have P3:=P2.setI (f:=⟨x.wi.p,x.wi.dx,l3,x.wi.c+1,ps3⟩) rfl b3 wn3
  have f3:=f2.trans (Far.of (A:=A) (ps:=x.pts) (by simp [KS.pts]) P2.wi.o b3)
  refine ⟨_,rfl,rdF (f3.pb _ _ hK.o hK.nk) T.bF T.sW (yJ ..) ⟨x.di.p,x.di.dx,_,rfl,P3.di.o,aie _ _ _ _ tb_g% tb_g% tb_g% tb_g%,_,rfl,x.di.p,x.di.dx,x.di.l,x.room,x.di.n,x.di.v,th,x.di.C,rfl,P3.di,hG.dl,by have:=hG.dc;lia,by lia,by lia,fun l4 v4 H4 lv4 dn4 b4 nl4=>?_⟩⟩
  have P4:=P3.setS (f:=⟨x.di.p,x.di.dx,l4,x.di.n+1,v4,came x.di.C th⟩) rfl b4 dn4
  have f4:=f3.trans (Far.of (A:=A) (ps:=x.pts) (by simp [KS.pts]) P3.di.o b4)
  have em:∀ c∈a'::x.dn.x.a::l3::l4::(bs'++x.dn.x.bs),c∈x.ems\/H c=none:=fun c m=>by
   unfold KS.ems
   simp only [cP,cR] at m ⊢
   rcases m with rfl | rfl | rfl | rfl | m | m
   ·exact .inr (f1.none P1.live na2)
   ·exact .inl (.inr (.inl rfl))
   ·exact .inr (f2.none P2.live nl3)
   ·rcases nl4 with rfl | n
    ·exact .inl (.inr (.inr (.inr (.inl rfl))))
    ·exact .inr (f3.none P3.live n)
   ·rcases nb2 c m with m | n
    ·exact .inl (.inr (.inr (.inr (.inr (.inl m)))))
    ·exact .inr (f1.none P1.live n)
   ·exact .inl (.inr (.inr (.inr (.inr (.inr m)))))
  have o4:=f4.pb _ _ hK.o hK.nk
  refine ⟨_,rfl,_,rfl,rdF o4 T.bF T.pU (rE ..) ⟨_,_,rfl,rfl,_,rfl,fH (fun hs=>?_) (fun hs=>?_)⟩⟩
  ·have hs:th<x.span:=of_decide_eq_true hs
   refine ⟨_,rfl,rdF o4 T.bF T.uW (qg ..) ⟨x.ba.p,x.ba.dx,_,rfl,P4.ba.o,akX _ _ tb_g% tb_g%,_,rfl,_,rfl,x.ba.p,x.ba.dx,x.ba.l,x.span,th,w,x.ba.q,rfl,P4.ba,th0,by rw [e64];lia,fun l5 H5 bn5 b5 nl5=>?_⟩⟩
   have P5:=P4.setB (f:=⟨x.ba.p,x.ba.dx,l5,_⟩) rfl b5 bn5
   have f5:=f4.trans (Far.of (A:=A) (ps:=x.pts) (by simp [KS.pts]) P4.ba.o b5)
   exact q _ H5 (P5.kp (f5.pb _ _ hK.o hK.nk) hK.nk) ⟨⟨rfl,rfl,rfl,rfl,rfl,rfl⟩,⟨cut,ft,rfl,rfl⟩,rfl,⟨rfl,rfl,rfl,rfl,st⟩,rfl,⟨rfl,eb3⟩,⟨rfl,rfl,lv4⟩,(if_pos hs).symm⟩ f5 em
  ·have hs:¬ th<x.span:=fun z=>hs (decide_eq_true z)
   exact q _ H4 (P4.kp o4 hK.nk) ⟨⟨rfl,rfl,rfl,rfl,rfl,rfl⟩,⟨cut,ft,rfl,rfl⟩,rfl,⟨rfl,rfl,rfl,rfl,st⟩,rfl,⟨rfl,eb3⟩,⟨rfl,rfl,lv4⟩,(if_neg hs).symm⟩ f4 em
noncomputable def aj1 (A:Ad):Sp:=fun vs H Q _=>∃ (x:KS) (n:Nat) (th w:Int),vs=[.ref x.k,.int th,.int w]/\Kp A H x/\Kh x n/\n<63/\0<=th/\th<1152921504606846976/\1<=w/\w<=1000000000000 /\
 ∀ (x':KS) (H':Hp),Kp A H' x'->ST th w x x'->Far A x.pts H H'->Em H x x'->Q .non H'
theorem ak0 (T:Tx K mg A):cB P w K mg base CX0 7 A.YF A.nO Q2 (aj1 A):=by
 k_dat (T.F'30.ok,FT,s) "a"
 ·obtain ⟨x,n,th,w,rfl,_⟩:=h
  rfl
 ·obtain ⟨x,n,th,w,rfl,hK,hG,hn,th0,th1,w1,w2,q⟩:=h
  have e64:(2:Int) ^ 64=18446744073709551616:=by decide
  have r2:=hG.r2
  have r64:=hG.r64
  have lu:=jf hG.dn.g hG.dn.t hG.few
  have su:=hG.dn.g.small
  have hrm:=hG.dn.r
  obtain ⟨W,okf⟩:=hG.wn.ok
  refine ⟨_,(ao (bC (cI (pf 0) T.fK T.xW (akW T) tb_g% T.b'24 .nil aL (aj (pv 1) (aj (pv 2) au))))
   (ao (bC (cI (pf 0) T.bT T.GD (ok'8 T) tb_g% T.b'8 .nil aL (aj (pv 1) (aj (pv 2) au))))
   (ao (bC (cI (pf 0) T.dM T.zj (akQ T) tb_g% T.b'13 .nil aL (aj aB au)))
   (aC (dO (aQ vC (pv 1) (pf 0) (aY _)) (aC (bC (cI (pf 0) T.mX T.K7 (ok'28 T) tb_g% T.b'28 .nil aL (aj (pv 1) (aj (pv 2) au))))) cG))))),?_⟩
  refine ⟨_,rfl,rdF hK.o T.bF T.xQ (Ij ..) ⟨x.wn.p,x.wn.dx,_,rfl,hK.wn.o,abk _ _ _ _ tb_g% tb_g% tb_g% tb_g%,_,rfl,_,rfl,x.wn.p,x.wn.dx,x.wn.d,x.room,x.wn.t,x.wn.l,th,w,x.wn.c,rfl,hK.wn.o,hK.wn.d,okf.nd,okf.pos,w1,by have:=hG.wn.k;lia,fun d1 c1 cut H1 hd1 ft o1 e1 b1=>?_⟩⟩
  have P1:=hK.pp.setW (f:=⟨x.wn.p,x.wn.dx,d1,x.wn.t+w,x.wn.l+cut,c1⟩) rfl b1 ⟨o1,e1⟩
  have f1:Far A x.pts H H1:=Far.of (by simp [KS.pts]) hK.wn.o b1
  refine ⟨_,rfl,rdF (f1.pb _ _ hK.o hK.nk) T.bF T.xT (Ik ..) ⟨x.dn.p,x.dn.x.dx,_,rfl,P1.dn.o,rgN tb_g%,_,rfl,_,rfl,x.dn.p,x.dn.x.dx,x.dn.x.a,x.dn.x.bs,x.dn.x.r,x.dn.x.tt,x.dn.x.ov,x.dn.x.un,x.dn.x.tn,th,w,x.dn.x.mi,x.dn.x.ma,x.dn.x.ls,rfl,P1.dn,hG.dn.g.r2,hG.dn.g.r64,by lia,by rw [e64];lia,by lia,(hG.dn.le62 hG.rr hn).1,(hG.dn.le62 hG.rr hn).2,lu.2,fun a' bs' out tn' ov' un' H2 st rn b2 na2 nb2=>?_⟩⟩
  have P2:=P1.setD (f:=⟨x.dn.p,⟨x.dn.x.dx,a',bs',x.dn.x.r,x.dn.x.tt+w,ov',un',tn',_,_,out⟩⟩) rfl b2 rn
  have f2:=f1.trans (Far.of (A:=A) (ps:=x.pts) (by simp [KS.pts]) P1.dn.o b2)
  refine ⟨_,rfl,rdF (f2.pb _ _ hK.o hK.nk) T.bF T.sV (oO ..) ⟨x.wi.p,x.wi.dx,_,rfl,P2.wi.o,Og _ _ _ _ tb_g% tb_g% tb_g% tb_g%,x.wi.p,x.wi.dx,x.wi.l,x.room,x.reach,x.wi.c,1,x.wi.ps,rfl,P2.wi,by have:=hG.wl;lia,by lia,by lia,fun l3 ps3 H3 eb3 wn3 b3 nl3=>?_⟩⟩
  have P3:=P2.setI (f:=⟨x.wi.p,x.wi.dx,l3,x.wi.c+1,ps3⟩) rfl b3 wn3
  have f3:=f2.trans (Far.of (A:=A) (ps:=x.pts) (by simp [KS.pts]) P2.wi.o b3)
  have em:∀ c∈x.up.x.a::a'::l3::x.di.l::(x.up.x.bs++bs'),c∈x.ems\/H c=none:=fun c m=>by
   unfold KS.ems
   simp only [cP,cR] at m ⊢
   rcases m with rfl | rfl | rfl | rfl | m | m
   ·exact .inl (.inl rfl)
   ·exact .inr (f1.none P1.live na2)
   ·exact .inr (f2.none P2.live nl3)
   ·exact .inl (.inr (.inr (.inr (.inl rfl))))
   ·exact .inl (.inr (.inr (.inr (.inr (.inl m)))))
   ·rcases nb2 c m with m | n
    ·exact .inl (.inr (.inr (.inr (.inr (.inr m)))))
    ·exact .inr (f1.none P1.live n)
  have o3:=f3.pb _ _ hK.o hK.nk
  refine ⟨_,rfl,_,rfl,rdF o3 T.bF T.pU (rE ..) ⟨_,_,rfl,rfl,_,rfl,fH (fun hs=>?_) (fun hs=>?_)⟩⟩
  ·have hs:th<x.span:=of_decide_eq_true hs
   refine ⟨_,rfl,rdF o3 T.bF T.uW (qg ..) ⟨x.ba.p,x.ba.dx,_,rfl,P3.ba.o,akX _ _ tb_g% tb_g%,_,rfl,_,rfl,x.ba.p,x.ba.dx,x.ba.l,x.span,th,w,x.ba.q,rfl,P3.ba,th0,by rw [e64];lia,fun l5 H5 bn5 b5 nl5=>?_⟩⟩
   have P5:=P3.setB (f:=⟨x.ba.p,x.ba.dx,l5,_⟩) rfl b5 bn5
   have f5:=f3.trans (Far.of (A:=A) (ps:=x.pts) (by simp [KS.pts]) P3.ba.o b5)
   exact q _ H5 (P5.kp (f5.pb _ _ hK.o hK.nk) hK.nk) ⟨⟨rfl,rfl,rfl,rfl,rfl,rfl⟩,rfl,⟨cut,ft,rfl,rfl⟩,rfl,⟨rfl,rfl,rfl,rfl,st⟩,⟨rfl,eb3⟩,rfl,(if_pos hs).symm⟩ f5 em
  ·have hs:¬ th<x.span:=fun z=>hs (decide_eq_true z)
   exact q _ H3 (P3.kp o3 hK.nk) ⟨⟨rfl,rfl,rfl,rfl,rfl,rfl⟩,rfl,⟨cut,ft,rfl,rfl⟩,rfl,⟨rfl,rfl,rfl,rfl,st⟩,⟨rfl,eb3⟩,rfl,(if_neg hs).symm⟩ f3 em
noncomputable def aj2 (A:Ad):Sp:=fun vs H Q _=>∃ (x:KS) (n:Nat) (w:Int),vs=[.ref x.k,.int w]/\Kp A H x/\Kh x n /\
 ∀ (x':KS) (H':Hp),Kp A H' x'->SI w x x'->Far A x.pts H H'->Em H x x'->Q .non H'
theorem ak1 (T:Tx K mg A):cB P w K mg base CX0 6 A.YG A.nP Q12 (aj2 A):=by
 k_dat (T.F'31.ok,FW,s) "a"
 ·obtain ⟨x,n,w,rfl,_⟩:=h
  rfl
 ·obtain ⟨x,n,w,rfl,hK,hG,q⟩:=h
  have r2:=hG.r2
  have r64:=hG.r64
  have few:=hG.few
  refine ⟨_,(aC (bC (cI (pf 0) T.dM T.zj (akQ T) tb_g% T.b'13 .nil aL (aj (pv 1) au)))),?_⟩
  refine ⟨_,rfl,rdF hK.o T.bF T.sV (oO ..) ⟨x.wi.p,x.wi.dx,_,rfl,hK.wi.o,Og _ _ _ _ tb_g% tb_g% tb_g% tb_g%,_,rfl,x.wi.p,x.wi.dx,x.wi.l,x.room,x.reach,x.wi.c,w,x.wi.ps,rfl,hK.wi,by have:=hG.wl;lia,by lia,by lia,fun l3 ps3 H3 eb3 wn3 b3 nl3=>?_⟩⟩
  have P3:=hK.pp.setI (f:=⟨x.wi.p,x.wi.dx,l3,x.wi.c+w,ps3⟩) rfl b3 wn3
  have f3:Far A x.pts H H3:=Far.of (by simp [KS.pts]) hK.wi.o b3
  exact q _ H3 (P3.kp (f3.pb _ _ hK.o hK.nk) hK.nk) ⟨⟨rfl,rfl,rfl,rfl,rfl,rfl⟩,rfl,rfl,rfl,rfl,⟨rfl,eb3⟩,rfl,rfl⟩ f3 fun c m=>by
   have m:c∈x.up.x.a::x.dn.x.a::l3::x.di.l::(x.up.x.bs++x.dn.x.bs):=m
   unfold KS.ems
   simp only [cP,cR] at m ⊢
   rcases m with rfl | rfl | rfl | rfl | m | m
   ·exact .inl (.inl rfl)
   ·exact .inl (.inr (.inl rfl))
   ·exact .inr nl3
   ·exact .inl (.inr (.inr (.inr (.inl rfl))))
   ·exact .inl (.inr (.inr (.inr (.inr (.inl m)))))
   ·exact .inl (.inr (.inr (.inr (.inr (.inr m)))))
open MK
structure Cs (H G:Hp) (k C dk:Addr) (fs:List (Str × V)) (ps:List Addr):Prop where
 o:G k=some (.ins C dk fs)
 b:But k H G
 fr:∀ p∈ps,H p=none
 lv:∀ p∈ps,G p≠none
 nd:(k::ps).Nodup
/-- what stays where nothing but the object at k changes -/
structure Sta (k:Addr) (P:Hp->Prop):Prop where
 s:∀ {G I:Hp},P G->Same G I->P I
 b:∀ {G I:Hp} {C e:Addr} {fs:List (Str × V)},P G->But k G I->G k=some (.ins C e fs)->P I
theorem Sta.and {k:Addr} {P R:Hp->Prop} (a:Sta k P) (b:Sta k R):Sta k fun G=>P G/\R G:=⟨fun h s=>⟨a.s h.1 s,b.s h.2 s⟩,fun h s o=>⟨a.b h.1 s o,b.b h.2 s o⟩⟩
section
variable {I:Hp} {k C dk X:Addr} {fs fs':List (Str × V)} {ps:List Addr}
theorem Cs.s (n:G p=none) (m:G dx=none) (bt:But p (upd (upd G dx (.own p)) p (.ins X dx [])) I):Same G I:=fun b o e=>bt b o (by rw [aA (aq e n),aA (aq e m)];exact e) (aq e n)
theorem Cs.free (h:Cs H G k C dk fs ps) (y:(upd (upd G dx (.own p)) p (.ins X dx [])) d=none):H d=none:=by
 have np:d≠p:=fun z=>by rw [z,ak] at y;cases y
 rw [aA np] at y
 have nq:d≠dx:=fun z=>by rw [z,ak] at y;cases y
 rw [aA nq] at y
 exact gR h.b y (aU (aq h.o y))
theorem Cs.next {R:α->Hp->Prop} {σ:α} (h:Cs H G k C dk fs ps) (n:G p=none) (m:G dx=none) (bt:But p (upd (upd G dx (.own p)) p (.ins X dx [])) I) (lv:I p≠none)
  (q:∀ J,Cs H J k C dk fs' (ps++[p])->p≠k->(∀ {P:Hp->Prop},Sta k P->P I->P J)->(∀ {P:Hp->Prop},Sta k P->P G->P J)->R σ J):R σ (upd I k (.ins C dk fs')):=by
 have s:=Cs.s n m bt
 have o:=s _ _ h.o
 have nk:p≠k:=aU (aq h.o n)
 have u:But k I (upd I k (.ins C dk fs')):=But.upd
 have np:p∉ps:=fun z=>h.lv p z n
 have nd:=g8.mp h.nd
 refine q _ ⟨ak,(h.b.trans (s.but k)).trans u,fun b mb=>?_,fun b mb=>?_,g8.mpr ⟨fun z=>?_,zp.mpr ⟨nd.2,g8.mpr ⟨iW,oR⟩,fun a ma b mb=>?_⟩⟩⟩ nk (fun S z=>S.b z u o) (fun S z=>S.b (S.s z s) u o)
 ·rcases cR.mp mb with z | z
  ·exact h.fr b z
  ·rw [dh.mp z];exact gR h.b n nk
 ·rcases cR.mp mb with z | z
  ·rw [aA fun y=>nd.1 (by rw [<- y];exact z)]
   intro y
   exact h.lv b z (s.free y)
  ·rw [dh.mp z,aA nk];exact lv
 ·rcases cR.mp z with z | z
  ·exact nd.1 z
  ·exact nk (dh.mp z).symm
 ·rw [dh.mp mb];exact fun z=>np (by rw [<- z];exact ma)
end
noncomputable def aj3 (A:Ad):Sp:=fun vs H Q _=>∃ (k dk:Addr) (room:Nat) (reach span:Int),vs=[.ref k,.int room,.int reach,.int span]/\H k=some (.ins A.fZ dk [])/\2<=room/\room<=64/\room % 2=0 /\
 ∀ (x:KS) (H':Hp),Kp A H' x->Eqp x (K0 room reach span)->x.k=k->(∀ b∈x.pts,H b=none)->(∀ b∈x.ems,H b=none)->But k H H'->Q .non H'
theorem sX.sta {k:Addr} (n:f.p≠k):Sta k fun G=>sX A G room f:=⟨fun h s=>h.same s,fun h b o=>h.but b o n⟩
theorem RnX.sta {x:Rs} {k:Addr} (n:p≠k):Sta k fun G=>RnX A G p x:=⟨fun h s=>h.same s,fun h b o=>h.but b o n⟩
theorem abn (T:Tx K mg A):cB P w K mg base CX0 3 A.S7 A.nQ Q13 (aj3 A):=by
 k_dat (T.F'32.ok,FZ,s) "a"
 ·obtain ⟨k,dk,room,reach,span,rfl,_⟩:=h
  rfl
 ·obtain ⟨k,dk,room,reach,span,rfl,hk,r2,r64,ev,q⟩:=h
  refine ⟨_,(ao (aV (pv 0) (pv 1) rfl)
   (ao (aV (pv 0) (pv 2) rfl)
   (ao (aV (pv 0) (pv 3) rfl)
   (ao (aV (pv 0) (gA T.ahY (aik T) tb_g% rfl T.Ak T.b'20 .nil aL (aj (pv 1) au)) rfl)
   (ao (aV (pv 0) (gA T.ahY (aik T) tb_g% rfl T.Ak T.b'20 .nil aL (aj (pv 1) au)) rfl)
   (ao (aV (pv 0) (gA T.ahX (ok'7 T) tb_g% rfl T.RL T.b'7 .nil aL (aj (pv 1) au)) rfl)
   (ao (aV (pv 0) (gA T.ahX (ok'7 T) tb_g% rfl T.RL T.b'7 .nil aL (aj (pv 1) au)) rfl)
   (ao (aV (pv 0) (gA T.akI (akP T) tb_g% rfl T.Vj T.b'10 .nil aL (aj (pv 1) (aj (pv 2) au))) rfl)
   (ao (aV (pv 0) (gA T.akJ (akS T) tb_g% rfl T.KZ T.b'16 .nil aL (aj (pv 1) au)) rfl)
   (aC (aV (pv 0) (gA T.akK (akZ T) tb_g% rfl T.N7 T.b'26 .nil aL (aj (pv 3) au)) rfl))))))))))),?_⟩
  refine sq fun R hR=>⟨_,rfl,_,rfl,k,_,dk,[],rfl,hk,T.bF,T.Cu,(by show 0<1000;decide),hR _ _ ?_⟩
  refine sq fun R hR=>⟨_,rfl,_,rfl,k,_,dk,_,rfl,ak,T.bF,T.Cv,(by show 1<1000;decide),hR _ _ ?_⟩
  refine sq fun R hR=>⟨_,rfl,_,rfl,k,_,dk,_,rfl,ak,T.bF,T.pU,(by show 2<1000;decide),?_⟩
  rw [cU,cU]
  have C0:Cs H (upd H k (.ins A.fZ dk (bV "span" (.int span) (bV "reach" (.int reach) (bV "room" (.int room) []))))) k A.fZ dk _ []:=⟨ak,But.upd,(fun b m=>nomatch m),(fun b m=>nomatch m),g8.mpr ⟨iW,oR⟩⟩
  generalize upd H k (.ins A.fZ dk (bV "span" (.int span) (bV "reach" (.int reach) (bV "room" (.int room) []))))=G at C0 ⊢
  refine hR _ _ (sq fun R hR=>⟨_,rfl,fun p1 dx1 n m _=>⟨p1,dx1,(room:Int),rfl,ak,fun d1 I _ e g bt=>⟨rfl,_,rfl,k,_,dk,_,rfl,(Cs.s n m bt) _ _ C0.o,T.bF,T.xP,(by show 3<1000;decide),C0.next n m bt (fun z=>by rw [e] at z;cases z) fun G1 C1 nk kI kG=>hR _ _ ?_⟩⟩⟩)
  have S:=sX.sta (A:=A) (room:=room) (f:=⟨p1,dx1,d1,0,0,[]⟩) nk
  have F:=kI S ⟨e,g⟩
  refine sq fun R hR=>⟨_,rfl,fun p2 dx2 n m _=>⟨p2,dx2,(room:Int),rfl,ak,fun d2 I _ e g bt=>⟨rfl,_,rfl,k,_,dk,_,rfl,(Cs.s n m bt) _ _ C1.o,T.bF,T.xQ,(by show 4<1000;decide),C1.next n m bt (fun z=>by rw [e] at z;cases z) fun G2 C2 nk kI kG=>hR _ _ ?_⟩⟩⟩
  have S':=sX.sta (A:=A) (room:=room) (f:=⟨p2,dx2,d2,0,0,[]⟩) nk
  replace F:=And.intro (kG S F) (kI S' ⟨e,g⟩)
  replace S:=S.and S'
  refine sq fun R hR=>⟨_,rfl,fun p3 dx3 n m _=>⟨p3,dx3,(room:Int),rfl,ak,fun d3 I hd e g bt=>⟨rfl,_,rfl,k,_,dk,_,rfl,(Cs.s n m bt) _ _ C2.o,T.bF,T.xR,(by show 5<1000;decide),C2.next n m bt (fun z=>by rw [e] at z;cases z) fun G3 C3 nk kI kG=>hR _ _ ?_⟩⟩⟩
  have v3:=C2.free hd
  have S':=RnX.sta (A:=A) (x:=⟨dx3,d3,[],room,0,0,0,0,none,none,[]⟩) nk
  replace F:=And.intro (kG S F) (kI S' (Rn.new e g))
  replace S:=S.and S'
  refine sq fun R hR=>⟨_,rfl,fun p4 dx4 n m _=>⟨p4,dx4,(room:Int),rfl,ak,fun d4 I hd e g bt=>⟨rfl,_,rfl,k,_,dk,_,rfl,(Cs.s n m bt) _ _ C3.o,T.bF,T.xT,(by show 6<1000;decide),C3.next n m bt (fun z=>by rw [e] at z;cases z) fun G4 C4 nk kI kG=>hR _ _ ?_⟩⟩⟩
  have v4:=C3.free hd
  have S':=RnX.sta (A:=A) (x:=⟨dx4,d4,[],room,0,0,0,0,none,none,[]⟩) nk
  replace F:=And.intro (kG S F) (kI S' (Rn.new e g))
  replace S:=S.and S'
  refine sq fun R hR=>⟨_,rfl,_,rfl,fun p5 dx5 n m _=>⟨p5,dx5,(room:Int),reach,rfl,ak,fun d5 I hd e g bt=>⟨rfl,_,rfl,k,_,dk,_,rfl,(Cs.s n m bt) _ _ C4.o,T.bF,T.sV,(by show 7<1000;decide),C4.next n m bt (fun z=>by rw [e] at z;cases z) fun G5 C5 nk kI kG=>hR _ _ ?_⟩⟩⟩
  have v5:=C4.free hd
  have S':=(⟨fun h s=>h.same s,fun h b o=>h.but b o nk⟩:Sta k fun G=>Wn A G p5 dx5 d5 room reach 0 [])
  replace F:=And.intro (kG S F) (kI S' ⟨e,⟨g,fun _ h=>(nomatch h)⟩⟩)
  replace S:=S.and S'
  refine sq fun R hR=>⟨_,rfl,fun p6 dx6 n m _=>⟨p6,dx6,(room:Int),rfl,ak,fun d6 I hd e g bt=>⟨rfl,_,rfl,k,_,dk,_,rfl,(Cs.s n m bt) _ _ C5.o,T.bF,T.sW,(by show 8<1000;decide),C5.next n m bt (fun z=>by rw [e] at z;cases z) fun G6 C6 nk kI kG=>hR _ _ ?_⟩⟩⟩
  have v6:=C5.free hd
  have S':=(⟨fun h s=>h.same s,fun h b o=>h.but b o nk⟩:Sta k fun G=>Dn A G p6 dx6 d6 room 0 0 (srt (My.up 0 [])))
  replace F:=And.intro (kG S F) (kI S' ⟨e,by rw [show srt (My.up 0 [])=[] from Gh.mp (fX _)];exact g⟩)
  replace S:=S.and S'
  refine ⟨_,rfl,fun p7 dx7 n m _=>⟨p7,dx7,span,rfl,ak,fun d7 I _ e bt=>⟨rfl,_,rfl,k,_,dk,_,rfl,(Cs.s n m bt) _ _ C6.o,T.bF,T.uW,(by show 9<1000;decide),C6.next n m bt (fun z=>by rw [e.o] at z;cases z) fun G7 C7 nk kI kG=>?_⟩⟩⟩
  have S':=(⟨fun h s=>h.same s,fun h b o=>h.but b o nk⟩:Sta k fun G=>Bn A G p7 dx7 d7 span Oj)
  replace F:=And.intro (kG S F) (kI S' e)
  obtain ⟨⟨⟨⟨⟨⟨F1,F2⟩,F3⟩,F4⟩,F5⟩,F6⟩,F7⟩:=F
  have o7:=C7.o
  rw [anW] at o7
  refine q ⟨k,dk,room,reach,span,⟨p1,dx1,d1,0,0,[]⟩,⟨p2,dx2,d2,0,0,[]⟩,⟨p3,⟨dx3,d3,[],room,0,0,0,0,none,none,[]⟩⟩,⟨p4,⟨dx4,d4,[],room,0,0,0,0,none,none,[]⟩⟩,⟨p5,dx5,d5,0,[]⟩,⟨p6,dx6,d6,0,0,[]⟩,⟨p7,dx7,d7,Oj⟩⟩ G7 ⟨o7,F1,F2,F3,F4,F5,F6,F7,C7.nd⟩
   ⟨rfl,rfl,rfl,⟨rfl,rfl,rfl⟩,⟨rfl,rfl,rfl⟩,⟨rfl,rfl,rfl,rfl,rfl,rfl,rfl,rfl⟩,⟨rfl,rfl,rfl,rfl,rfl,rfl,rfl,rfl⟩,⟨rfl,rfl⟩,⟨rfl,rfl,rfl⟩,rfl⟩ rfl C7.fr (fun b m=>?_) C7.b
  unfold KS.ems at m
  simp only [cP,cR,iW,or_false] at m
  rcases m with rfl | rfl | rfl | rfl
  all_goals assumption
open MK
structure R3 where
 (kd th w:Int)
variable {r:R3} {rs:List R3}
structure R3.ok (r:R3):Prop where
 k0:0<=r.kd
 k2:r.kd<=2
 t0:0<=r.th
 t1:r.th<1152921504606846976
 w1:1<=r.w
 w2:r.w<=1000000000000
/-- what a row does -/
noncomputable def SR (r:R3) (x x':KS):Prop:=if r.kd=0 then SP r.th r.w x x' else if r.kd=1 then ST r.th r.w x x' else SI r.w x x'
theorem SR.sb (h:SR r x x'):SB x x':=by
 unfold SR at h
 split at h
 ·exact h.sb
 ·split at h
  ·exact h.sb
  ·exact h.sb
theorem Eqp.row (e:Eqp x y) (a:SR r x x') (b:SR r y y'):Eqp x' y':=by
 unfold SR at a b
 split at a
 ·rename_i h;rw [if_pos h] at b;exact e.put a b
 ·rename_i h
  rw [if_neg h] at b
  split at a
  ·rename_i h;rw [if_pos h] at b;exact e.take a b
  ·rename_i h;rw [if_neg h] at b;exact e.idle a b
theorem Kh.row (h:Kh x n) (hn:n<63) (ok:r.ok) (s:SR r x x'):Kh x' (n+1):=by
 unfold SR at s
 split at s
 ·exact h.put hn s ok.w1 ok.w2
 ·split at s
  ·exact h.take hn s ok.w1 ok.w2
  ·exact h.idle hn s
open MK
noncomputable def aiq (A:Ad):Sp:=fun vs H Q _=>∃ (p dx d p' dx' d':Addr) (room:Nat) (t l t' l':Int) (c c':Tab),vs=[.ref p,.ref p']/\H p=some (.ins A.iG dx (fl room t l d))/\H d=some (.dK (emb c)) /\
 H p'=some (.ins A.iG dx' (fl room t' l' d'))/\H d'=some (.dK (emb c'))/\(keys c).Nodup/\(∀ p∈c,1<=p.2)/\(∀ p∈c',1<=p.2)/\(mV c c').length<64/\c.length+c'.length<=900 /\
 ∀ (x dxx e:Addr) (b:Tab) (cut:Int) (H':Hp),H x=none->H e=none->gj room (mV c c') b cut->H' x=some (.ins A.iG dxx (fl room (t+t') (l+l'+cut) e))->H' e=some (.dK (emb b))->Same H H'->Q (.ref x) H'
theorem ada {c d:Tab} {p:Int × Int} (h:d[i]? = some p):mV c (d.take (i+1))=put (mV c (d.take i)) p.1 (low (mV c (d.take i)) p.1+p.2):=by
 rw [take_snoc h,acA]
noncomputable def adb (A:Ad):Sp:=fun vs H Q E=>aiq A vs H Q E\/∃ (p dx p' dx' d d':Addr) (r r' t l t' l':Int),vs=[.ref p,.ref p']/\H p=some (.ins A.iG dx (fl r t l d))/\H p'=some (.ins A.iG dx' (fl r' t' l' d'))/\r≠r'/\E (.ref A.iz) none H
theorem ak2 (T:Tx K mg A):cB P w K mg base (CXE P w) 3 A.abH A.qW Q1 (adb A):=by
 k_dat (T.F'33.okE,fQ,s) "a"
 ·rcases h with ⟨p,dx,d,p',dx',d',room,t,l,t',l',c,c',rfl,_⟩ | ⟨p,dx,p',dx',d,d',r,r',t,l,t',l',rfl,_⟩ <;> rfl
 ·skip
  refine ⟨_,(ao (dO (PT.nox (aQ pC (pf 0) (pf 1) (aY _))) (aC (pH Jz T.iZ rfl T.mY (aj gF au))) cG)
   (ao (PS.nox (psS 2 fQ.nd (gA T.ahY (aik T) tb_g% rfl T.Ak T.b'20 .nil aL (aj (pf 0) au))))
   (ao (PS.nox (aV (pv 2) (aK bA (pf 0) (pf 1)) rfl))
   (ao (PS.nox (aV (pv 2) (aK bA (pf 0) (pf 1)) rfl))
   (ao (PS.nox (psS 3 fQ.nd (ji JZ (by rfl) T.ah3 afg (aj (pf 0) au))))
   (ao (PS.nox (aaM jB rfl (pf 1) ⟨rfl,rfl⟩ (Q0 rfl (mU (pgN 4 fQ.nd) (mU (pgN 5 fQ.nd) Hx))) (aC (Fd (aK bA (Ui (cN hr) (pv 3) (pv 4) aB ⟨rfl,rfl,rfl,rfl⟩) (pv 5)) (Fb (pv 3) (pv 4) (setG (cN hr)))))))
   (ao (PS.nox (bC (cI (pv 2) T.fK T.xV (akV T) tb_g% T.b'23 .nil aL (aj (pv 3) au))))
   (aC (PS.nox (bQ (pv 2))))))))))),?_⟩
  rcases h with ⟨p,dx,d,p',dx',d',room,t,l,t',l',c,c',rfl,hp,hd,hp',hd',hn,pos,pos',h64,h900,q⟩ | ⟨p,dx,p',dx',d,d',r,r',t,l,t',l',rfl,hp,hp',hne,q⟩
  rotate_left
  ·refine ⟨_,rfl,rdF hp T.fK T.Cm (yH _ _ _ _) ⟨_,rfl,rdF hp' T.fK T.Cm (yH _ _ _ _) ⟨rfl,_,rfl,?_⟩⟩⟩
   have e:(!decide (V.int r=V.int r'))=true:=by rw [decide_eq_false (fun z=>hne (V.int.inj z))];rfl
   rw [e]
   k_dat q "h"
  refine ⟨_,rfl,rdF hp T.fK T.Cm (yH _ _ _ _) ⟨_,rfl,rdF hp' T.fK T.Cm (yH _ _ _ _) ⟨rfl,_,rfl,pD rfl ?_⟩⟩⟩
  refine ⟨_,rfl,rdF hp T.fK T.Cm (yH _ _ _ _) fun x dxx nx ndx nex=>?_⟩
  refine ⟨x,dxx,_,rfl,ak,fun e0 H1 he0 e1 e2 bt=>⟨rfl,?_⟩⟩
  have s0:Same H (upd (upd H dxx (.own x)) x (.ins A.iG dxx [])):=fun b o e=>by
   rw [aA (aq e nx),aA (aq e ndx)];exact e
  have s1:Same H H1:=fun b o e=>bt b o (s0 b o e) (aq e nx)
  have nx1:∀ b o,H b=some o->b≠x:=fun b o e=>aq e nx
  refine ⟨_,rfl,rdF (s1 _ _ hp) T.fK T.Cp (Df _ _ _ _) ⟨_,rfl,rdF (s1 _ _ hp') T.fK T.Cp (Df _ _ _ _) ⟨_,_,rfl,rfl,_,rfl,x,_,dxx,_,rfl,e1,T.fK,T.Cp,(by show 4<1000;decide),?_⟩⟩⟩
  rw [abh]
  have k2:∀ b o,H b=some o->∀ u,(upd H1 x u) b=some o:=fun b o e u=>by rw [aA (nx1 b o e)];exact s1 _ _ e
  refine ⟨_,rfl,rdF (k2 _ _ hp _) T.fK T.Cq (Ig _ _ _ _) ⟨_,rfl,rdF (k2 _ _ hp' _) T.fK T.Cq (Ig _ _ _ _) ⟨_,_,rfl,rfl,_,rfl,x,_,dxx,_,rfl,ak,T.fK,T.Cq,(by show 4<1000;decide),?_⟩⟩⟩
  rw [abj,cU]
  refine ⟨_,rfl,rdF (k2 _ _ hp _) T.fK T.Cr (tY _ _ _ _) ⟨d,emb c,rfl,.inl (k2 _ _ hd _),fun g hg=>?_⟩⟩
  have ngx:x≠g:=fun z=>by rw [<- z,ak] at hg;cases hg
  have ng:∀ b o,H b=some o->b≠g:=fun b o e z=>by rw [<- z,k2 _ _ e] at hg;cases hg
  have k3:∀ b o,H b=some o->(upd (upd H1 x (.ins A.iG dxx (fl room (t+t') (l+l') e0))) g (.dK (emb c))) b=some o:=fun b o e=>by rw [aA (ng b o e)];exact k2 b o e _
  refine ⟨_,rfl,rdF (k3 _ _ hp') T.fK T.Cr (tY _ _ _ _) ⟨d',emb c',rfl,k3 _ _ hd',fun o wm=>Ng (fun i σ H2=>∃ (y z:Option V),σ=[some (.ref p),some (.ref p'),some (.ref x),some (.ref g),y,z]/\H2 d'=some (.frz o (.dK (emb c')))/\H2 g=some (.dK (emb (mV c (c'.take i))))/\H2 x=some (.ins A.iG dxx (fl room (t+t') (l+l') e0))/\(∀ b u,H b=some u->b≠d'->H2 b=some u))
   ⟨none,none,rfl,ak,?_,?_,fun b u e hb=>by rw [aA hb];exact k3 b u e⟩ (fun i σ H2 ⟨_,_,_,h,_⟩=>h) ?_ ?_⟩⟩
  ·rw [aA (aU (ng _ _ hd')),ak];rfl
  ·rw [aA (aU (nx1 _ _ hd')),aA ngx,ak]
  ·rintro i pp t2 σ H2 hi ⟨y,z,rfl,f1,f2,f3,f4⟩ ht
   obtain ⟨pr,hpr,rfl⟩:=ag9 hi
   have m1:∀ b u,H2 b=some u->(upd H2 t2 (.tup [.int pr.1,.int pr.2])) b=some u:=fun b u e=>by rw [aA (aq e ht)];exact e
   refine ⟨t2,_,rfl,.inl (.inl ak),rfl,_,_,rfl,_,_,rfl,rfl,?_⟩
   refine ⟨_,rfl,g,rfl,.inl ⟨_,.inl (m1 _ _ f2)⟩,_,rfl,_,akA (.inl (m1 _ _ f2)),?_⟩
   rw [aaQ]
   have hz:(emb (mV c (c'.take i))).length<sizeLine:=by
    rw [uJ]
    have:=xq (c'.take i) c
    rw [jy] at this
    exact bB tb_g%
   refine ⟨_,rfl,_,_,rfl,rfl,_,rfl,_,rfl,Zd (m1 _ _ f2) hz ?_⟩
   rw [Kd,<- ada hpr]
   have ngd:d'≠g:=ng _ _ hd'
   exact ⟨_,_,rfl,by rw [aA ngd];exact m1 _ _ f1,ak,by rw [aA ngx];exact m1 _ _ f3,fun b u e hb=>by rw [aA (ng b u e)];exact m1 _ _ (f4 b u e hb)⟩
  ·rintro σ H2 ⟨y,z,rfl,f1,f2,f3,f4⟩
   rw [uJ,qu] at f2
   refine ⟨d',emb c',o,wm,f1,?_⟩
   have ngd:g≠d':=aU (ng _ _ hd')
   have nxd:x≠d':=aU (nx1 _ _ hd')
   have f2':(upd H2 d' (.dK (emb c'))) g=some (.dK (emb (mV c c'))):=by rw [aA ngd];exact f2
   have f3':(upd H2 d' (.dK (emb c'))) x=some (.ins A.iG dxx (fl room (t+t') (l+l') e0)):=by rw [aA nxd];exact f3
   have f4':Same H (upd H2 d' (.dK (emb c'))):=fun b u e=>by
    by_cases hb:b=d'
    ·subst hb;rw [ak,<- e,hd']
    ·rw [aA hb];exact f4 b u e hb
   refine ⟨_,rfl,x,dxx,_,rfl,f3',abk _ _ _ _ tb_g% tb_g% tb_g% tb_g%,_,rfl,x,dxx,g,e0,room,t+t',l+l',mV c c',rfl,f3',f2',Rr _ hn,Ka _ pos pos',h64,fun e' b' cut H3 n3 fit g3 g4 bt3=>?_⟩
   exact ⟨_,rfl,q x dxx e' b' cut H3 nx (f4'.free n3) fit g3 g4 fun b u e=>bt3 b u (f4' b u e) (nx1 b u e)⟩
noncomputable def air:Sp:=fun vs H Q _=>∃ (a:Addr) (bs:List Addr) (ls:RG.Ls) (i:Nat),vs=[.ref a,.int (i:Int)]/\LL H a bs ls/\∀ (c:Addr) (H':Hp),H' c=some (.lst ((ls.getD i []).map V.int))->Same H H'->Q (.ref c) H'
theorem ak3 (T:Tx K mg A):cB P w K mg base CX0 1 A.abI A.NZ Q23 air:=by
 k_dat (T.F'34.ok,ZV,s) "a"
 ·obtain ⟨a,bs,ls,i,rfl,_⟩:=h
  rfl
 ·obtain ⟨a,bs,ls,i,rfl,hL,q⟩:=h
  refine ⟨_,(aC (bQ (T5 (aQ vC (pv 1) (bO dJ (by rfl) T.mZ mK (aj (pv 0) au)) (aY _)) (dw (ixG (cN hr)) (pv 0) (pv 1) (fun _ _=>rfl)) (dR au)))),?_⟩
  refine ⟨_,rfl,_,rfl,jw (.inl (.inl hL.o)) ⟨_,_,rfl,rfl,_,rfl,fH (fun h=>?_) (fun h=>?_)⟩⟩
  ·have hi:i<ls.length:=by
    have:=of_decide_eq_true h
    rw [aZ,hL.n] at this
    lia
   obtain ⟨b,l,eb,el,hb⟩:=hL.at hi
   refine ⟨_,rfl,_,rfl,lO (.inl (.inl hL.o)) (v:=.ref b) (LL.ix eb) (q b H ?_ (Same.refl _))⟩
   rw [vU,el];exact hb
  ·have hi:ls.length<=i:=by
    have:¬ (i:Int)<((bs.map V.ref).length:Int):=fun z=>h (decide_eq_true z)
    rw [aZ,hL.n] at this
    lia
   refine ⟨by show 0<=sizeLine;decide,fun c hc=>q c _ ?_ (Same.new hc)⟩
   rw [vU,vo hi];exact ak
noncomputable def aj4 (A:Ad):Sp:=fun vs H Q _=>∃ (p dx a p' dx' a':Addr) (bs bs':List Addr) (r tt ov un tn tt' ov' un' tn':Int) (mi ma mi' ma':Option Int) (ls ls':RG.Ls),vs=[.ref p,.ref p']/\Rn A H p dx a bs r tt ov un tn mi ma ls/\Rn A H p' dx' a' bs' r tt' ov' un' tn' mi' ma' ls'/\2<=r/\r<=64/\ls.length<=400/\ls'.length<=400/\(∀ k∈RG.join ls ls',k.length<=63)/\((∀ k∈RG.join ls ls',k.length<=31)\/∀ k∈RG.join ls ls',(k.length:Int)<=r)/\RG.val ls<2 ^ 400/\RG.val ls'<2 ^ 400 /\
 ∀ (z dz g:Addr) (cs:List Addr) (out:RG.Ls) (tn2 ov2 un2:Int) (H':Hp),RG.Stl r 0 (tn+tn') (ov+ov') (un+un') (RG.join ls ls') out tn2 ov2 un2->Rn A H' z dz g cs r (tt+tt') ov2 un2 tn2 (lo2 mi mi') (hi2 ma ma') out->H z=none->H g=none->(∀ c∈cs,H c=none)->Same H H'->Q (.ref z) H'
noncomputable def ais (A:Ad):Sp:=fun vs H Q E=>aj4 A vs H Q E\/∃ (p dx a p' dx' a':Addr) (bs bs':List Addr) (r tt ov un tn r' tt' ov' un' tn':Int) (mi ma mi' ma':Option Int) (ls ls':RG.Ls),vs=[.ref p,.ref p']/\Rn A H p dx a bs r tt ov un tn mi ma ls/\Rn A H p' dx' a' bs' r' tt' ov' un' tn' mi' ma' ls'/\r≠r'/\E (.ref A.iz) none H
theorem ak4 (T:Tx K mg A):cB P w K mg base (CXE P w) 5 A.abJ A.xJ Q1 (ais A):=by
 k_dat (T.F'35.okE,jY,s) "a"
 ·rcases h with ⟨p,dx,a,p',dx',a',bs,bs',r,tt,ov,un,tn,tt',ov',un',tn',mi,ma,mi',ma',ls,ls',rfl,_⟩ | ⟨p,dx,a,p',dx',a',bs,bs',r,tt,ov,un,tn,r',tt',ov',un',tn',mi,ma,mi',ma',ls,ls',rfl,_⟩ <;> rfl
 ·skip
  refine ⟨_,(ao (dO (PT.nox (aQ pC (pf 0) (pf 1) (aY _))) (aC (pH Jz T.iZ rfl T.mY (aj gF au))) cG)
   (ao (PS.nox (psS 2 jY.nd (gA T.ahX (ok'7 T) tb_g% rfl T.RL T.b'7 .nil aL (aj (pf 0) au))))
   (ao (PS.nox (aV (pv 2) (aK bA (pf 0) (pf 1)) rfl))
   (ao (PS.nox (aV (pv 2) (aK bA (pf 0) (pf 1)) rfl))
   (ao (PS.nox (aV (pv 2) (aK bA (pf 0) (pf 1)) rfl))
   (ao (PS.nox (aV (pv 2) (aK bA (pf 0) (pf 1)) rfl))
   (ao (PS.nox (aV (pv 2) (aF (ok'6 T) tb_g% T.F'6 aL (aj (pf 0) (aj (pf 1) au))) rfl))
   (ao (PS.nox (aV (pv 2) (aF (ok'5 T) tb_g% T.F'5 aL (aj (pf 0) (aj (pf 1) au))) rfl))
   (ao (PS.nox (psS 3 jY.nd (dR au)))
   (ao (PS.nox (rR jB rfl (MJ rfl T.RQ (aj (bO (Fj rfl) (by rfl) T.aa9 XS (aj (bO dJ (by rfl) T.mZ mK (aj (pf 0) au)) (aj (bO dJ (by rfl) T.mZ mK (aj (pf 1) au)) au))) au)) (pgN 4 jY.nd) (aC (bC (jG mL sY sZ d8 (pv 3) (aj (bO (lB rfl) (by rfl) T.pZ Ep (aj (aK wX (aF (ak3 T) tb_g% T.F'34 aL (aj (pf 0) (aj (pv 4) au))) (aF (ak3 T) tb_g% T.F'34 aL (aj (pf 1) (aj (pv 4) au)))) au)) au))))))
   (ao (PS.nox (bC (cI (pv 2) T.bT T.xU (ok'4 T) tb_g% T.b'4 .nil aL (aj (pv 3) au))))
   (aC (PS.nox (bQ (pv 2))))))))))))))),?_⟩
  rcases h with ⟨p,dx,a,p',dx',a',bs,bs',r,tt,ov,un,tn,tt',ov',un',tn',mi,ma,mi',ma',ls,ls',rfl,hR,hS,r2,r64,l4,l4',jb,j6,v1,v2,q⟩ | ⟨p,dx,a,p',dx',a',bs,bs',r,tt,ov,un,tn,r',tt',ov',un',tn',mi,ma,mi',ma',ls,ls',rfl,hR,hS,hne,q⟩
  rotate_left
  ·refine ⟨_,rfl,rdF hR.o T.bT T.BR (yD ..) ⟨_,rfl,rdF hS.o T.bT T.BR (yD ..) ⟨rfl,_,rfl,?_⟩⟩⟩
   have e:(!decide (V.int r=V.int r'))=true:=by rw [decide_eq_false (fun z=>hne (V.int.inj z))];rfl
   rw [e]
   k_dat q "h"
  refine ⟨_,rfl,rdF hR.o T.bT T.BR (yD ..) ⟨_,rfl,rdF hS.o T.bT T.BR (yD ..) ⟨rfl,_,rfl,pD rfl ?_⟩⟩⟩
  refine ⟨_,rfl,rdF hR.o T.bT T.BR (yD ..) fun z dz nz ndz nez=>?_⟩
  refine ⟨z,dz,_,rfl,ak,fun e0 H1 he0 o1 f1 bt=>⟨rfl,?_⟩⟩
  have s1:Same H H1:=fun b o e=>bt b o (by rw [aA (aq e nz),aA (aq e ndz)];exact e) (aq e nz)
  have k1:∀ u:HO,Same H (upd H1 z u):=fun u b o e=>by rw [aA (aq e nz)];exact s1 _ _ e
  have R1:=hR.same s1
  have R2:=hS.same s1
  refine ⟨_,rfl,rdF R1.o T.bT T.za (xZ ..) ⟨_,rfl,rdF R2.o T.bT T.za (xZ ..) ⟨_,_,rfl,rfl,_,rfl,z,_,dz,_,rfl,o1,T.bT,T.za,(by show 8<1000;decide),?_⟩⟩⟩
  rw [CQ]
  have R1:=hR.same (k1 (.ins A.cX dz (rg (.int r) (.int (tt+tt')) (.int 0) (.int 0) (.int 0) .non .non (.ref e0))))
  have R2:=hS.same (k1 (.ins A.cX dz (rg (.int r) (.int (tt+tt')) (.int 0) (.int 0) (.int 0) .non .non (.ref e0))))
  refine ⟨_,rfl,rdF R1.o T.bT T.BW (Ia ..) ⟨_,rfl,rdF R2.o T.bT T.BW (Ia ..) ⟨_,_,rfl,rfl,_,rfl,z,_,dz,_,rfl,ak,T.bT,T.BW,(by show 8<1000;decide),?_⟩⟩⟩
  rw [GJ]
  rw [cU]
  have R1:=hR.same (k1 (.ins A.cX dz (rg (.int r) (.int (tt+tt')) (.int (ov+ov')) (.int 0) (.int 0) .non .non (.ref e0))))
  have R2:=hS.same (k1 (.ins A.cX dz (rg (.int r) (.int (tt+tt')) (.int (ov+ov')) (.int 0) (.int 0) .non .non (.ref e0))))
  refine ⟨_,rfl,rdF R1.o T.bT T.BX (CN ..) ⟨_,rfl,rdF R2.o T.bT T.BX (CN ..) ⟨_,_,rfl,rfl,_,rfl,z,_,dz,_,rfl,ak,T.bT,T.BX,(by show 8<1000;decide),?_⟩⟩⟩
  rw [CT]
  rw [cU]
  have R1:=hR.same (k1 (.ins A.cX dz (rg (.int r) (.int (tt+tt')) (.int (ov+ov')) (.int (un+un')) (.int 0) .non .non (.ref e0))))
  have R2:=hS.same (k1 (.ins A.cX dz (rg (.int r) (.int (tt+tt')) (.int (ov+ov')) (.int (un+un')) (.int 0) .non .non (.ref e0))))
  refine ⟨_,rfl,rdF R1.o T.bT T.qY (m7 ..) ⟨_,rfl,rdF R2.o T.bT T.qY (m7 ..) ⟨_,_,rfl,rfl,_,rfl,z,_,dz,_,rfl,ak,T.bT,T.qY,(by show 8<1000;decide),?_⟩⟩⟩
  rw [vd]
  rw [cU]
  have s2:=k1 (.ins A.cX dz (rg (.int r) (.int (tt+tt')) (.int (ov+ov')) (.int (un+un')) (.int (tn+tn')) .non .non (.ref e0)))
  have o2:(upd H1 z (.ins A.cX dz (rg (.int r) (.int (tt+tt')) (.int (ov+ov')) (.int (un+un')) (.int (tn+tn')) .non .non (.ref e0)))) z=_:=ak
  have R1:=hR.same s2
  have R2:=hS.same s2
  generalize upd H1 z (.ins A.cX dz (rg (.int r) (.int (tt+tt')) (.int (ov+ov')) (.int (un+un')) (.int (tn+tn')) .non .non (.ref e0)))=H2 at s2 o2 R1 R2 ⊢
  refine ⟨_,rfl,rdF R1.o T.bT T.BZ (CP ..) ⟨_,rfl,rdF R2.o T.bT T.BZ (CP ..) ⟨mi,mi',rfl,fun H3 s3=>⟨_,rfl,z,_,dz,_,rfl,s3 _ _ o2,T.bT,T.BZ,(by show 8<1000;decide),?_⟩⟩⟩⟩
  rw [CV]
  have s4:Same H (upd H3 z (.ins A.cX dz (rg (.int r) (.int (tt+tt')) (.int (ov+ov')) (.int (un+un')) (.int (tn+tn')) (oV (lo2 mi mi')) .non (.ref e0)))):=fun b o e=>by rw [aA (aq e nz)];exact s3 _ _ (s2 b o e)
  have o4:(upd H3 z (.ins A.cX dz (rg (.int r) (.int (tt+tt')) (.int (ov+ov')) (.int (un+un')) (.int (tn+tn')) (oV (lo2 mi mi')) .non (.ref e0)))) z=_:=ak
  have R1:=hR.same s4
  have R2:=hS.same s4
  generalize upd H3 z (.ins A.cX dz (rg (.int r) (.int (tt+tt')) (.int (ov+ov')) (.int (un+un')) (.int (tn+tn')) (oV (lo2 mi mi')) .non (.ref e0)))=H4 at s4 o4 R1 R2 ⊢
  refine ⟨_,rfl,rdF R1.o T.bT T.Ca (Ib ..) ⟨_,rfl,rdF R2.o T.bT T.Ca (Ib ..) ⟨ma,ma',rfl,fun H5 s5=>⟨_,rfl,z,_,dz,_,rfl,s5 _ _ o4,T.bT,T.Ca,(by show 8<1000;decide),?_⟩⟩⟩⟩
  rw [GP]
  have s6:Same H (upd H5 z (.ins A.cX dz (rg (.int r) (.int (tt+tt')) (.int (ov+ov')) (.int (un+un')) (.int (tn+tn')) (oV (lo2 mi mi')) (oV (hi2 ma ma')) (.ref e0)))):=fun b o e=>by rw [aA (aq e nz)];exact s5 _ _ (s4 b o e)
  have o6:(upd H5 z (.ins A.cX dz (rg (.int r) (.int (tt+tt')) (.int (ov+ov')) (.int (un+un')) (.int (tn+tn')) (oV (lo2 mi mi')) (oV (hi2 ma ma')) (.ref e0)))) z=_:=ak
  generalize upd H5 z (.ins A.cX dz (rg (.int r) (.int (tt+tt')) (.int (ov+ov')) (.int (un+un')) (.int (tn+tn')) (oV (lo2 mi mi')) (oV (hi2 ma ma')) (.ref e0)))=H6 at s6 o6 ⊢
  refine ⟨by show 0<=sizeLine;decide,fun g hg=>?_⟩
  have s7:Same H6 (upd H6 g (.lst [])):=Same.new hg
  have f7:(upd H6 g (.lst [])) g=some (.lst []):=ak
  have n7:H g=none:=s6.free hg
  have zg:z≠g:=aq o6 hg
  generalize upd H6 g (.lst [])=H7 at s7 f7 ⊢
  have s07:=s6.trans s7
  have R1:=hR.same s07
  have R2:=hS.same s07
  have na:((bs.map V.ref).length:Int)=(ls.length:Int):=by rw [aZ,hR.l.n]
  have nb:((bs'.map V.ref).length:Int)=(ls'.length:Int):=by rw [aZ,hS.l.n]
  refine ⟨_,rfl,rdF R1.o T.bT T.zc (tW ..) (jw (.inl (.inl R1.l.o)) ⟨_,rfl,rdF R2.o T.bT T.zc (tW ..) (jw (.inl (.inl R2.l.o)) ⟨_,_,rfl,?_⟩)⟩)⟩
  rw [na,nb]
  have em:(if (ls'.length:Int)>(ls.length:Int) then (ls'.length:Int) else (ls.length:Int))=((max ls.length ls'.length:Nat):Int):=by split <;> lia
  rw [em]
  refine ⟨_,rfl,by lia,by lia,?_⟩
  refine Fi (fun i σ G=>∃ (cs:List Addr) (y:Option V),σ=[some (.ref p),some (.ref p'),some (.ref z),some (.ref g),y]/\LL G g cs (RG.qT i ls ls')/\Same H G/\G z=H6 z/\∀ c∈cs,H c=none)
   ⟨[],none,rfl,⟨f7,rfl,fun i b l e=>by (cases i <;> cases e),fun z=>nomatch z⟩,s07,(s7 _ _ o6).trans o6.symm,fun _ h=>nomatch h⟩ ?_ ?_
  ·rintro i σ G hi ⟨cs,y,rfl,L,sG,gz,fr⟩
   have hi':i<max ls.length ls'.length:=by lia
   have R1:=hR.same sG
   have R2:=hS.same sG
   have jl:(RG.jn ls ls' i).length<=63:=jb _ (by unfold RG.join RG.qT;exact kj.mpr ⟨i,OJ.mpr hi',rfl⟩)
   rw [RG.xu] at jl
   refine ⟨_,rfl,.inl ⟨rfl,_,.inl (.inl L.o)⟩,_,rfl,rdF R1.o T.bT T.zc (tW ..) ⟨_,rfl,a,bs,ls,i,by rw [mO];rfl,R1.l,fun c1 G1 f1 t1=>?_⟩⟩
   refine ⟨_,rfl,rdF (R2.same t1).o T.bT T.zc (tW ..) ⟨_,rfl,a',bs',ls',i,by rw [mO];rfl,(R2.same t1).l,fun c2 G2 f2 t2=>?_⟩⟩
   refine ⟨c1,c2,_,_,rfl,rfl,t2 _ _ f1,f2,ou (bB (by rw [aZ,aZ];lia)),fun c3 hc3=>?_⟩
   rw [<- cC]
   have t3:Same G2 (upd G2 c3 (.lst ((ls.getD i []++ls'.getD i []).map V.int))):=Same.new hc3
   have f3:(upd G2 c3 (.lst ((ls.getD i []++ls'.getD i []).map V.int))) c3=some (.lst ((ls.getD i []++ls'.getD i []).map V.int)):=ak
   generalize upd G2 c3 (.lst ((ls.getD i []++ls'.getD i []).map V.int))=G3 at t3 f3 ⊢
   refine .inr ⟨c3,_,rfl,.inl (.inl f3),by rw [cV];lia,fun c4 ns hc4 pm so=>?_⟩
   obtain rfl:=RG.rZ pm so
   have t4:Same G3 (upd G3 c4 (.lst ((RG.srt (ls.getD i []++ls'.getD i [])).map V.int))):=Same.new hc4
   have f4:(upd G3 c4 (.lst ((RG.srt (ls.getD i []++ls'.getD i [])).map V.int))) c4=some (.lst ((RG.srt (ls.getD i []++ls'.getD i [])).map V.int)):=ak
   have t03:=t1.trans (t2.trans t3)
   have n4:c4≠g:=aU (aq (t03 _ _ L.o) hc4)
   have N4:H c4=none:=(sG.trans t03).free hc4
   have t04:=t03.trans t4
   have L4:=L.same t04
   have z4:=t04 _ _ (gz.trans o6)
   have s4:=sG.trans t04
   generalize upd G3 c4 (.lst ((RG.srt (ls.getD i []++ls'.getD i [])).map V.int))=G4 at f4 L4 z4 s4 ⊢
   refine ⟨g,_,_,rfl,rfl,L4.o,bB (by rw [aZ,L4.n,RG.yw];lia),?_⟩
   have L5:=L4.app (m:=RG.jn ls ls' i) f4 n4
   rw [<- RG.Ag] at L5
   refine ⟨_,_,rfl,L5,fun b o e=>by rw [aA (aq e n7)];exact s4 b o e,by rw [aA zg,o6];exact z4,fun c hc=>?_⟩
   rcases cR.mp hc with y | y
   ·exact fr c y
   ·rw [dh.mp y];exact N4
  ·rintro σ G ⟨cs,y,rfl,L,sG,gz,fr⟩
   rw [zT] at L
   rw [o6] at gz
   have jv:RG.val (RG.join ls ls')<2 ^ 500:=by
    rw [RG.Uz]
    have:(2:Nat) ^ 400+2 ^ 400<2 ^ 500:=by decide
    lia
   refine ⟨_,rfl,z,dz,_,rfl,gz,rgN tb_g%,_,rfl,z,dz,g,cs,RG.join ls ls',r,tt+tt',ov+ov',un+un',tn+tn',lo2 mi mi',hi2 ma ma',.ref e0,rfl,gz,L,r2,r64,j6,by rw [RG.lD];lia,jv,fun g2 bs2 out tn2 ov2 un2 G7 st ng2 L7 o7 b7 _ fr7=>?_⟩
   have nz2:∀ c,G c=none->H c=none:=fun c n=>sG.free n
   exact ⟨_,rfl,q z dz g2 bs2 out tn2 ov2 un2 G7 st ⟨o7,L7⟩ nz (nz2 _ ng2) (fun c hc=>by
    rcases fr7 c hc with y | y
    ·exact fr c y
    ·exact nz2 c y) fun b o e=>b7 b o (sG b o e) (aq e nz)⟩
open MK
noncomputable def shift (c:Int) (b:WN.Box):WN.Box:=⟨b.f+c,b.l+c,b.s⟩
noncomputable def Z0 (A:Ad):Sp:=fun vs H Q _=>∃ (p dx l p' dx' l':Addr) (r k c c':Int) (ps ps':List Bp),vs=[.ref p,.ref p']/\Wn A H p dx l r k c ps/\Wn A H p' dx' l' r k c' ps'/\ps.length+ps'.length<=400/\0<=r/\r<=64 /\
 ∀ (x dxx l2:Addr) (ps2:List Bp) (H':Hp),H x=none->H l2=none->bx ps2=cZ r (c+c'-k) (bx ps++(bx ps').map (shift c))->Wn A H' x dxx l2 r k (c+c') ps2->Same H H'->Q (.ref x) H'
theorem Z1 {c:Int} {p:Bp} (h:ps[i]? = some p):(bx (ps.take (i+1))).map (shift c)=(bx (ps.take i)).map (shift c)++[shift c p.2]:=by
 unfold bx;rw [nZ,h,cC,cC];rfl
noncomputable def Vu (A:Ad):Sp:=fun vs H Q E=>Z0 A vs H Q E\/∃ (p dx l p' dx' l':Addr) (r k c r' k' c':Int) (ps ps':List Bp),vs=[.ref p,.ref p']/\Wn A H p dx l r k c ps/\Wn A H p' dx' l' r' k' c' ps'/\(r≠r'\/k≠k')/\E (.ref A.iz) none H
theorem ok'36 (T:Tx K mg A):cB P w K mg base (CXE P w) 5 A.abK A.KR Q1 (Vu A):=by
 k_dat (T.F'36.okE,xY,s) "a"
 ·rcases h with ⟨p,dx,l,p',dx',l',r,k,c,c',ps,ps',rfl,_⟩ | ⟨p,dx,l,p',dx',l',r,k,c,r',k',c',ps,ps',rfl,_⟩ <;> rfl
 ·skip
  refine ⟨_,(ao (dO (PT.nox (PW.pt (pw_or (aQ pC (pf 0) (pf 1) (aY _)) (pw_or1 (aQ pC (pf 0) (pf 1) (aY _)))))) (aC (pH Jz T.iZ rfl T.mY (aj gF au))) cG)
   (ao (PS.nox (psS 2 xY.nd (gA T.akI (akP T) tb_g% rfl T.Vj T.b'10 .nil aL (aj (pf 0) (aj (pf 0) au)))))
   (ao (PS.nox (aV (pv 2) (aK bA (pf 0) (pf 1)) rfl))
   (ao (PS.nox (uK (i:=3) (cl:=[("one",s.heap.objs.size+1)]) (N:=["box","one"]) (caps:=[0]) (tt:=_) (te:=(tTup (T8 (tOp _ (tOp (Rh K) _ _) (agN K _ "clock")) (T8 (tOp _ (tOp (Rh K) _ _) (agN K _ "clock")) (T8 (tOp (Rh K) _ _) tNil))))) xY.nd rfl (Or.inl rfl) rfl (by with_unfolding_all rfl) tb_g% rfl tb_g% ⟨rfl,trivial⟩ (xr (by with_unfolding_all rfl)) tb_g% rfl rfl rfl (gQ.at (k:=1) (show gQ _ _ _ _ 1 [0] from ⟨⟨"one",_,rfl,rfl,.inl rfl,.inl rfl,rfl⟩,trivial⟩)) (mH (pf 1)) (fun _ _ _ _=>HJ) (fun _ _ _ _=>(lY (aj (aK bA (dw (ixG (by exact cN hr)) (pv 0) aB (fun _ _=>rfl)) (pf 1)) (aj (aK bA (dw (ixG (by exact cN hr)) (pv 0) aB (fun _ _=>rfl)) (pf 1)) (aj (dw (ixG (by exact cN hr)) (pv 0) aB (fun _ _=>rfl)) au)))))))
   (ao (PS.nox (bC (cI (pv 2) T.dM T.nT (ah9 T) tb_g% T.b'11 .nil aL (aj (aK wX (pf 0) (pv 3)) au))))
   (aC (PS.nox (bQ (pv 2))))))))),?_⟩
  rcases h with ⟨p,dx,l,p',dx',l',r,k,c,c',ps,ps',rfl,hw,hw',h400,r0,r64,q⟩ | ⟨p,dx,l,p',dx',l',r,k,c,r',k',c',ps,ps',rfl,hw,hw',hd,q⟩
  rotate_left
  ·refine ⟨_,rfl,rdF hw.o T.dM T.Cd (yF _ _ _ _) ⟨_,rfl,rdF hw'.o T.dM T.Cd (yF _ _ _ _) ⟨rfl,_,rfl,fH (fun h=>?_) (fun h=>?_)⟩⟩⟩
   ·k_dat q "h"
   ·have e:r=r':=by
     by_cases z:r=r'
     ·exact z
     ·exfalso;apply h;rw [decide_eq_false (fun y=>z (V.int.inj y))];rfl
    refine ⟨_,rfl,rdF hw.o T.dM T.Ce (tX _ _ _ _) ⟨_,rfl,rdF hw'.o T.dM T.Ce (tX _ _ _ _) ⟨rfl,_,rfl,?_⟩⟩⟩
    have hk:k≠k':=by rcases hd with z | z;exact absurd e z;exact z
    rw [decide_eq_false (fun y=>hk (V.int.inj y))]
    k_dat q "h"
  refine ⟨_,rfl,rdF hw.o T.dM T.Cd (yF _ _ _ _) ⟨_,rfl,rdF hw'.o T.dM T.Cd (yF _ _ _ _) ⟨rfl,_,rfl,pD rfl ?_⟩⟩⟩
  refine ⟨_,rfl,rdF hw.o T.dM T.Ce (tX _ _ _ _) ⟨_,rfl,rdF hw'.o T.dM T.Ce (tX _ _ _ _) ⟨rfl,_,rfl,pD rfl ?_⟩⟩⟩
  refine ⟨_,rfl,rdF hw.o T.dM T.Cd (yF _ _ _ _) ⟨_,rfl,rdF hw.o T.dM T.Ce (tX _ _ _ _) fun x dxx nx ndx nex=>?_⟩⟩
  refine ⟨x,dxx,r,k,rfl,ak,fun d H1 hd e1 e2 bt1=>⟨rfl,?_⟩⟩
  have s1:Same H H1:=fun b o e=>bt1 b o (by rw [aA (aq e nx),aA (aq e ndx)];exact e) (aq e nx)
  refine ⟨_,rfl,rdF (s1 _ _ hw.o) T.dM T.oE (jJ _ _ _ _) ⟨_,rfl,rdF (s1 _ _ hw'.o) T.dM T.oE (jJ _ _ _ _) ⟨_,_,rfl,rfl,_,rfl,x,_,dxx,_,rfl,e1,T.dM,T.oE,(by show 4<1000;decide),?_⟩⟩⟩
  rw [vg]
  have s2:Same H (upd H1 x (.ins A.iR dxx (wf (.int r) (.int k) (.int (c+c')) (.ref d)))):=fun b o e=>by rw [aA (aq e nx)];exact s1 b o e
  have o2:(upd H1 x (.ins A.iR dxx (wf (.int r) (.int k) (.int (c+c')) (.ref d)))) x=some (.ins A.iR dxx (wf (.int r) (.int k) (.int (c+c')) (.ref d))):=ak
  generalize upd H1 x (.ins A.iR dxx (wf (.int r) (.int k) (.int (c+c')) (.ref d)))=H2 at s2 o2 ⊢
  have w2:=hw.same s2
  have w2':=hw'.same s2
  refine ⟨_,rfl,rdF w2'.o T.dM T.Cg (yc _ _ _ _) ⟨l',rfl,⟨_,.inl (.inl w2'.b.l)⟩,fun D hD=>?_⟩⟩
  refine Fv (K:=K) (a:=l') (xs:=ps'.map fun p=>V.ref p.1) (fun i ys H3=>∃ qs:List Bp,ys=qs.map (fun p=>V.ref p.1)/\bx qs=(bx (ps'.take i)).map (shift c)/\(∀ p∈qs,H3 p.1=some (bt p.2))/\H3 D=some (.lst ys)/\Same H2 H3) ⟨[],rfl,rfl,(fun p m=>nomatch m),ak,Same.new hD⟩ ?_ ?_ ?_ ?_
  ·rintro i ys H3 hi ⟨qs,rfl,eq,tq,fD,s3⟩
   refine ⟨.inl (.inl (s3 _ _ w2'.b.l)),fD,bB ?_⟩
   have:qs.length=(ps'.take i).length:=by rw [<- je,eq,aZ,je]
   rw [aZ,this,jy]
   lia
  ·rintro i ys H3 y hy ⟨qs,rfl,eq,tq,fD,s3⟩
   obtain ⟨z,hz,rfl⟩:=Ie hy
   have hzt:=s3 _ _ (w2'.b.t z (List.mem_of_getElem? hz))
   have w3:=w2.same s3
   refine ⟨_,rfl,gB (.inl (.inl hzt)) (v:=.int z.2.f) rfl ⟨_,rfl,rdF w3.o T.dM T.oE (jJ _ _ _ _) ⟨_,_,rfl,rfl,?_⟩⟩⟩
   refine ⟨_,rfl,gB (.inl (.inl hzt)) (v:=.int z.2.l) rfl ⟨_,rfl,rdF w3.o T.dM T.oE (jJ _ _ _ _) ⟨_,_,rfl,rfl,?_⟩⟩⟩
   refine ⟨_,rfl,gB (.inl (.inl hzt)) (v:=.int z.2.s) rfl ⟨(by show 3<=sizeLine;decide),fun t ht=>?_⟩⟩
   have s4:Same H3 (upd H3 t (bt (shift c z.2))):=Same.new ht
   have f4:(upd H3 t (bt (shift c z.2))) t=some (bt (shift c z.2)):=ak
   show (upd H3 t (bt (shift c z.2))) D=_/\∃ qs':List Bp,_
   have nD:∀ a b,H3 a=some (bt b)->a≠D:=fun a b e=>iw e fD (by intro z;cases z)
   refine ⟨s4 _ _ fD,qs++[(t,shift c z.2)],by rw [cC];rfl,?_,fun p m=>?_,ak,fun b o e=>?_⟩
   ·rw [Z1 hz,<- eq];unfold bx;rw [cC];rfl
   ·walk_at "i"
    ·have:=tq p m
     rw [aA (nD _ _ this)];exact s4 _ _ this
    ·rw [dh.mp m]
     have:t≠D:=aU (aq fD ht)
     rw [aA this];exact f4
   ·rw [aA (aq e hD)];exact s4 _ _ (s3 _ _ e)
  ·rintro ys H3 ⟨qs,rfl,eq,tq,fD,s3⟩
   rw [aZ,qu] at eq
   have s03:=s2.trans s3
   have lq:qs.length=ps'.length:=by rw [<- je,eq,aZ,je]
   refine ⟨_,rfl,x,dxx,_,rfl,s3 _ _ o2,Og _ _ _ _ tb_g% tb_g% tb_g% tb_g%,?_⟩
   refine ⟨_,rfl,rdF (s03 _ _ hw.o) T.dM T.Cg (yc _ _ _ _) ⟨_,rfl,l,D,_,_,rfl,rfl,s03 _ _ hw.b.l,fD,ou (bB (by rw [aZ,aZ];lia)),fun l4 hl4=>?_⟩⟩
   have s4:Same H3 (upd H3 l4 (.lst ((ps.map fun p=>V.ref p.1)++(qs.map fun p=>V.ref p.1)))):=Same.new hl4
   have b4:Bxs (upd H3 l4 (.lst ((ps.map fun p=>V.ref p.1)++(qs.map fun p=>V.ref p.1)))) l4 (ps++qs):=by
    refine ⟨by rw [ak,cC],fun z m=>?_⟩
    walk_at "i"
    ·exact s4 _ _ (s03 _ _ (hw.b.t z m))
    ·exact s4 _ _ (tq z m)
   generalize upd H3 l4 (.lst ((ps.map fun p=>V.ref p.1)++(qs.map fun p=>V.ref p.1)))=H4 at s4 b4 ⊢
   refine ⟨x,dxx,l4,d,r,k,c+c',_,rfl,s4 _ _ (s3 _ _ o2),b4,by rw [cV];lia,r0,r64,fun l5 ps5 H5 e5 w5 b5 n5=>?_⟩
   have s04:=s03.trans s4
   refine ⟨_,rfl,q x dxx l5 ps5 H5 nx (s04.free n5) ?_ w5 fun b o e=>b5 b o (s04 _ _ e) (aq e nx)⟩
   rw [e5]
   congr 1
   unfold bx at eq ⊢
   rw [cC,eq]
  ·exact ahM (tO (jj (HY (bU 0) (mC _)) (KH (bU 1))) (tO (jj (HY (bU 0) (mC _)) (KH (bU 1))) (tO (HY (bU 0) (mC _)) KD)))
noncomputable def ade (A:Ad):Sp:=fun vs H Q _=>∃ (p dx l p' dx' l':Addr) (s:Int) (q q':Q4),vs=[.ref p,.ref p']/\Bn A H p dx l s q/\Bn A H p' dx' l' s q'/\∀ (x dxx l2:Addr) (H':Hp),H x=none->Bn A H' x dxx l2 s (addQ q q')->Same H H'->Q (.ref x) H'
noncomputable def Z2 (A:Ad):Sp:=fun vs H Q E=>ade A vs H Q E\/∃ (p dx l p' dx' l':Addr) (s s':Int) (q q':Q4),vs=[.ref p,.ref p']/\Bn A H p dx l s q/\Bn A H p' dx' l' s' q'/\s≠s'/\E (.ref A.iz) none H
theorem ok'37 (T:Tx K mg A):cB P w K mg base (CXE P w) 3 A.abL A.tQ Q1 (Z2 A):=by
 k_dat (T.F'37.okE,rA,s) "a"
 ·rcases h with ⟨p,dx,l,p',dx',l',s,q,q',rfl,_⟩ | ⟨p,dx,l,p',dx',l',s,s',q,q',rfl,_⟩ <;> rfl
 ·skip
  refine ⟨_,(ao (dO (PT.nox (aQ pC (pf 0) (pf 1) (aY _))) (aC (pH Jz T.iZ rfl T.mY (aj gF au))) cG)
   (ao (PS.nox (psS 2 rA.nd (gA T.akK (akZ T) tb_g% rfl T.N7 T.b'26 .nil aL (aj (pf 0) au))))
   (ao (PS.nox (aV (pv 2) (ahI (g:=(gTup K 2 (JT (vB 0) (JT (vB 1) gNil)))) (k:=2) (cl:=[]) (N:=["first","second"]) (caps:=[]) (tt:=_) (te:=_) rfl (by with_unfolding_all rfl) tb_g% rfl tb_g% trivial (xr (by with_unfolding_all rfl)) (fun _ _ _ _=>Q0 rfl (mU (Hw (i:=0) (show (["first","second"]:List Str).Nodup by decide +kernel) rfl (Or.inl rfl)) (mU (Hw (i:=1) (show (["first","second"]:List Str).Nodup by decide +kernel) rfl (Or.inl rfl)) Hx))) rfl (gQ.at (k:=2) (show gQ _ _ _ _ 2 [] from trivial)) (ank rfl T.n_zip (aj (pf 0) (aj (pf 1) au))) (fun _ _ _ _=>HJ) (fun _ _ _ _=>(aK bA (pv 0) (pv 1)))) rfl))
   (aC (PS.nox (bQ (pv 2))))))),?_⟩
  rcases h with ⟨p,dx,l,p',dx',l',sp,q,q',rfl,hb,hb',k⟩ | ⟨p,dx,l,p',dx',l',sp,sp',q,q',rfl,hb,hb',hne,k⟩
  rotate_left
  ·refine ⟨_,rfl,rdF hb.o T.mX T.Gz (Dg _ _) ⟨_,rfl,rdF hb'.o T.mX T.Gz (Dg _ _) ⟨rfl,_,rfl,?_⟩⟩⟩
   rw [decide_eq_false (fun z=>hne (V.int.inj z))]
   k_dat k "h"
  refine ⟨_,rfl,rdF hb.o T.mX T.Gz (Dg _ _) ⟨_,rfl,rdF hb'.o T.mX T.Gz (Dg _ _) ⟨rfl,_,rfl,pD rfl ?_⟩⟩⟩
  refine ⟨_,rfl,rdF hb.o T.mX T.Gz (Dg _ _) fun x dxx nx ndx nex=>?_⟩
  refine ⟨x,dxx,sp,rfl,ak,fun d H1 hd b1 bt1=>⟨rfl,?_⟩⟩
  have s1:Same H H1:=fun b o e=>bt1 b o (by rw [aA (aq e nx),aA (aq e ndx)];exact e) (aq e nx)
  refine ⟨_,rfl,rdF (s1 _ _ hb.o) T.mX T.xO (Dh _ _) ⟨_,rfl,rdF (s1 _ _ hb'.o) T.mX T.xO (Dh _ _) ⟨l,l',_,_,rfl,s1 _ _ hb.l,s1 _ _ hb'.l,fun D hD=>?_⟩⟩⟩
  refine acS (xs:=(L4 q).map V.int) (ys:=(L4 q').map V.int) (fun i zs H2=>zs=((L4 (addQ q q')).take i).map V.int/\H2 D=some (.lst zs)/\Same H1 H2) ⟨rfl,ak,Same.new hD⟩ ?_ ?_ ?_ (ZJ 0 1) ?_
  ·rintro i zs H2 ⟨rfl,f,s2⟩
   exact ⟨s2 _ _ (s1 _ _ hb.l),s2 _ _ (s1 _ _ hb'.l),f,bB (by rw [aZ,jy];show min i 4<=1000;lia)⟩
  ·rintro i zs H2 u v t ws hu hv ⟨rfl,f,s2⟩ ht hw
   obtain ⟨w0,w1,rfl⟩:∃ w0 w1,ws=[w0,w1]:=by
    match ws,hw with
    | [a,b],_=>exact ⟨a,b,rfl⟩
   have s3:Same H2 (upd H2 t (.tup [u,v])):=Same.new ht
   have keep:∀ L b o,H1 b=some o->(upd (upd H2 t (.tup [u,v])) D L) b=some o:=fun L b o e=>by rw [aA (aq e hD)];exact s3 _ _ (s2 _ _ e)
   refine ⟨t,_,rfl,.inl (.inl ak),rfl,_,_,rfl,_,_,rfl,rfl,⟨[some u,some v],rfl,rfl⟩,?_⟩
   rcases mG hu with ⟨rfl,rfl⟩ | ⟨rfl,rfl⟩ | ⟨rfl,rfl⟩ | ⟨rfl,rfl⟩
   ·rcases mG hv with ⟨_,rfl⟩ | ⟨h,_⟩ | ⟨h,_⟩ | ⟨h,_⟩
    ·exact ⟨_,rfl,_,rfl,_,_,rfl,rfl,s3 _ _ f,rfl,ak,keep _⟩
    all_goals lia
   ·rcases mG hv with ⟨h,_⟩ | ⟨_,rfl⟩ | ⟨h,_⟩ | ⟨h,_⟩
    ·lia
    ·exact ⟨_,rfl,_,rfl,_,_,rfl,rfl,s3 _ _ f,rfl,ak,keep _⟩
    all_goals lia
   ·rcases mG hv with ⟨h,_⟩ | ⟨h,_⟩ | ⟨_,rfl⟩ | ⟨h,_⟩
    ·lia
    ·lia
    ·exact ⟨_,rfl,_,rfl,_,_,rfl,rfl,s3 _ _ f,rfl,ak,keep _⟩
    ·lia
   ·rcases mG hv with ⟨h,_⟩ | ⟨h,_⟩ | ⟨h,_⟩ | ⟨_,rfl⟩
    ·lia
    ·lia
    ·lia
    ·exact ⟨_,rfl,_,rfl,_,_,rfl,rfl,s3 _ _ f,rfl,ak,keep _⟩
  ·rintro zs H2 ⟨rfl,f,s2⟩
   refine ⟨_,rfl,x,_,dxx,_,rfl,s2 _ _ b1.o,T.mX,T.xO,(by show 2<1000;decide),?_⟩
   rw [yd]
   have npl:D≠x:=aU (aq b1.o hD)
   refine ⟨_,rfl,k x dxx D _ nx ⟨ak,by rw [aA npl];exact f⟩ fun b o e=>?_⟩
   rw [aA (aq e nx)];exact s2 _ _ (s1 _ _ e)
  ·exact jj (bU 0) (bU 1)
open MK
noncomputable def un (C D:List Int):List Int:=Sx.dd (C++D)
theorem R7 {z:Int}:z∈un C D↔z∈C\/z∈D:=by unfold un;rw [Sx.ahh,cR]
theorem ak5 (C D:List Int):(un C D).Nodup:=Sx.Ut _
theorem an3 (C D:List Int):(un C D).length<=C.length+D.length:=by have:=Sx.Rx (C++D);rw [cV] at this;exact this
theorem ait (h:C.Nodup):(up v C).Nodup:=h.filter _
theorem aiu (nd:C.Nodup) (h:∀ z∈C,z∈D):(up v C).length<=(up v D).length :=
 (ait nd).length_le_of_subset fun z m=>qe.mpr ⟨h z (qe.mp m).1,(qe.mp m).2⟩
theorem rD.uniq {r w:Int} (h:rD r v C) (g:rD r w C):v=w:=Lvl.uniq (v:=0) ⟨h.1,h.2.1,h.2.2⟩ ⟨g.1,g.2.1,g.2.2⟩
theorem aj5 {k:Int} (h:C.Nodup):(came C k).Nodup:=Sx.Nk h
noncomputable def aj6 (A:Ad):Sp:=fun vs H Q _=>∃ (p dx l p' dx' l':Addr) (r n v n' v':Int) (C D:List Int),vs=[.ref p,.ref p']/\Dn A H p dx l r n v (srt (up v C))/\Dn A H p' dx' l' r n' v' (srt (up v' D))/\rD r v C/\rD r v' D/\C.Nodup/\D.Nodup/\0<=r/\r<=400/\C.length+D.length<=63 /\
 ∀ (x dxx l2:Addr) (w:Int) (H':Hp),H x=none->H l2=none->rD r w (un C D)->Dn A H' x dxx l2 r (n+n') w (srt (up w (un C D)))->Same H H'->Q (.ref x) H'
noncomputable def aiv (A:Ad):Sp:=fun vs H Q E=>aj6 A vs H Q E\/∃ (p dx l p' dx' l':Addr) (r n v r' n' v':Int) (ks ms:List Int),vs=[.ref p,.ref p']/\Dn A H p dx l r n v ks/\Dn A H p' dx' l' r' n' v' ms/\r≠r'/\E (.ref A.iz) none H
theorem ok'38 (T:Tx K mg A):cB P w K mg base (CXE P w) 5 A.abM A.qX Q1 (aiv A):=by
 k_dat (T.F'38.okE,p8,s) "a"
 ·rcases h with ⟨p,dx,l,p',dx',l',r,n,v,n',v',C,D,rfl,_⟩ | ⟨p,dx,l,p',dx',l',r,n,v,r',n',v',ks,ms,rfl,_⟩ <;> rfl
 ·skip
  refine ⟨_,(ao (dO (PT.nox (aQ pC (pf 0) (pf 1) (aY _))) (aC (pH Jz T.iZ rfl T.mY (aj gF au))) cG)
   (ao (PS.nox (psS 2 p8.nd (gA T.akJ (akS T) tb_g% rfl T.KZ T.b'16 .nil aL (aj (pf 0) au))))
   (ao (PS.nox (aV (pv 2) (aK bA (pf 0) (pf 1)) rfl))
   (ao (PS.nox (aV (pv 2) (bO (Fj rfl) (by rfl) T.aa9 XS (aj (pf 0) (aj (pf 1) au))) rfl))
   (ao (PS.nox (bC (cI (pv 2) T.eV T.qZ (akU T) tb_g% T.b'18 .nil aL (aj (aF (akT T) tb_g% T.F'17 aL (aj (bO (Zu rfl) (by rfl) T.pZ Ep (aj (ji (acJ rfl) (by rfl) T.n_set alH (aj (aK wX (pf 0) (pf 1)) au)) au)) (aj (pf 2) au))) au))))
   (aC (PS.nox (bQ (pv 2))))))))),?_⟩
  rcases h with ⟨p,dx,l,p',dx',l',r,n,v,n',v',C,D,rfl,h1,h2,L1,L2',nC,nD,r0,r4,f63,q⟩ | ⟨p,dx,l,p',dx',l',r,n,v,r',n',v',ks,ms,rfl,h1,h2,hd,q⟩
  rotate_left
  ·refine ⟨_,rfl,rdF h1.o T.eV T.Ci (yG ..) ⟨_,rfl,rdF h2.o T.eV T.Ci (yG ..) ⟨rfl,_,rfl,?_⟩⟩⟩
   rw [decide_eq_false (fun y=>hd (V.int.inj y))]
   k_dat q "h"
  refine ⟨_,rfl,rdF h1.o T.eV T.Ci (yG ..) ⟨_,rfl,rdF h2.o T.eV T.Ci (yG ..) ⟨rfl,_,rfl,pD rfl ?_⟩⟩⟩
  refine ⟨_,rfl,rdF h1.o T.eV T.Ci (yG ..) fun x dxx nx ndx nex=>?_⟩
  refine ⟨x,dxx,r,rfl,L2.ak,fun d H1 hd e1 e2 bt1=>⟨rfl,?_⟩⟩
  have s1:Same H H1:=fun b o e=>bt1 b o (by rw [aA (aq e nx),aA (aq e ndx)];exact e) (aq e nx)
  have v0:=L1.1
  have v0':=L2'.1
  have v61:=L1.le r0
  have v61':=L2'.le r0
  refine ⟨_,rfl,rdF (s1 _ _ h1.o) T.eV T.Cj (rC ..) ⟨_,rfl,rdF (s1 _ _ h2.o) T.eV T.Cj (rC ..) ⟨_,_,rfl,rfl,_,rfl,x,_,dxx,_,rfl,e1,T.eV,T.Cj,(by show 4<1000;decide),?_⟩⟩⟩
  rw [vM]
  have s2:Same H (upd H1 x (.ins A.iD dxx (df (.int r) (.int (n+n')) (.int 0) (.ref d)))):=fun b o e=>by rw [aA (aq e nx)];exact s1 b o e
  have o2:(upd H1 x (.ins A.iD dxx (df (.int r) (.int (n+n')) (.int 0) (.ref d)))) x=some (.ins A.iD dxx (df (.int r) (.int (n+n')) (.int 0) (.ref d))):=L2.ak
  generalize upd H1 x (.ins A.iD dxx (df (.int r) (.int (n+n')) (.int 0) (.ref d)))=H2 at s2 o2 ⊢
  refine ⟨_,rfl,rdF (s2 _ _ h1.o) T.eV T.vH (m8 ..) ⟨_,rfl,rdF (s2 _ _ h2.o) T.eV T.vH (m8 ..) ⟨_,_,rfl,_,rfl,x,_,dxx,_,rfl,o2,T.eV,T.vH,(by show 4<1000;decide),?_⟩⟩⟩
  rw [Dd]
  have hm:v<=(if v'>v then v' else v)/\v'<=(if v'>v then v' else v)/\(if v'>v then v' else v)<=61/\((if v'>v then v' else v)=v\/(if v'>v then v' else v)=v'):=by split <;> lia
  generalize (if v'>v then v' else v)=m at hm ⊢
  obtain ⟨m1,m2,m61,me⟩:=hm
  have s3:Same H (upd H2 x (.ins A.iD dxx (df (.int r) (.int (n+n')) (.int m) (.ref d)))):=fun b o e=>by rw [aA (aq e nx)];exact s2 b o e
  have o3:(upd H2 x (.ins A.iD dxx (df (.int r) (.int (n+n')) (.int m) (.ref d)))) x=some (.ins A.iD dxx (df (.int r) (.int (n+n')) (.int m) (.ref d))):=L2.ak
  generalize upd H2 x (.ins A.iD dxx (df (.int r) (.int (n+n')) (.int m) (.ref d)))=H3 at s3 o3 ⊢
  have k1:(srt (up v C)).length<=C.length:=by rw [fX];exact vX _ _
  have k2:(srt (up v' D)).length<=D.length:=by rw [fX];exact vX _ _
  have k3:=Sx.Rx (srt (up v C)++srt (up v' D))
  rw [cV] at k3
  refine ⟨_,rfl,x,dxx,_,rfl,o3,aie _ _ _ _ tb_g% tb_g% tb_g% tb_g%,?_⟩
  refine ⟨_,rfl,rdF (s3 _ _ h1.o) T.eV T.Ck (Dc ..) ⟨_,rfl,rdF (s3 _ _ h2.o) T.eV T.Ck (Dc ..) ⟨l,l',_,_,rfl,rfl,s3 _ _ h1.l,s3 _ _ h2.l,ou (bB (by rw [aZ,aZ];lia)),fun l4 hl4=>?_⟩⟩⟩
  rw [<- cC]
  have s4:=s3.trans (Same.new (o:=.lst ((srt (up v C)++srt (up v' D)).map V.int)) hl4)
  have o4:=(Same.new (o:=.lst ((srt (up v C)++srt (up v' D)).map V.int)) hl4) _ _ o3
  have f4:(upd H3 l4 (.lst ((srt (up v C)++srt (up v' D)).map V.int))) l4=some (.lst ((srt (up v C)++srt (up v' D)).map V.int)):=L2.ak
  generalize upd H3 l4 (.lst ((srt (up v C)++srt (up v' D)).map V.int))=H4 at s4 o4 f4 ⊢
  refine ⟨l4,_,rfl,.inl (.inl f4),by rw [cV];lia,fun sa hsa=>⟨sa,_,rfl,L2.ak,by lia,fun l5 ns hl5 pm so=>?_⟩⟩
  obtain rfl:ns=srt (Sx.dd (srt (up v C)++srt (up v' D))):=rZ pm so
  have t5:=(Same.new hsa).trans (Same.new (o:=.lst ((srt (Sx.dd (srt (up v C)++srt (up v' D)))).map V.int)) hl5)
  generalize hH5:upd (upd H4 sa _) l5 (.lst ((srt (Sx.dd (srt (up v C)++srt (up v' D)))).map V.int))=H5 at t5 ⊢
  have f5:H5 l5=some (.lst ((srt (Sx.dd (srt (up v C)++srt (up v' D)))).map V.int)):=by rw [<- hH5];exact L2.ak
  have s5:=s4.trans t5
  have o5:=t5 _ _ o4
  have ln:(srt (Sx.dd (srt (up v C)++srt (up v' D)))).length<=63:=by
   rw [fX]
   have:=Sx.Rx (srt (up v C)++srt (up v' D))
   rw [cV] at this
   lia
  refine ⟨_,rfl,rdF o5 T.eV T.vH (m8 ..) ⟨l5,m,_,rfl,f5,by lia,fun l6 H6 nl6 g6 s6=>?_⟩⟩
  have o6:=s6 _ _ o5
  have nS:(srt (Sx.dd (srt (up v C)++srt (up v' D)))).Nodup:=(iH _).nodup_iff.mpr (Sx.Ut _)
  have ks:∀ w,m<=w->(up w (up m (srt (Sx.dd (srt (up v C)++srt (up v' D)))))).Perm (up w (un C D)):=fun w hw=>by
   rw [abe hw]
   refine (List.perm_ext_iff_of_nodup (ait nS) (ait (ak5 C D))).mpr fun z=>?_
   rw [qe,qe,mJ,Sx.ahh,cR,mJ,mJ,qe,qe,R7]
   constructor
   ·rintro ⟨a | a,b⟩
    ·exact ⟨.inl a.1,b⟩
    ·exact ⟨.inr a.1,b⟩
   ·rintro ⟨a | a,b⟩
    ·exact ⟨.inl ⟨a,by lia⟩,b⟩
    ·exact ⟨.inr ⟨a,by lia⟩,b⟩
  have lu:(up m (srt (Sx.dd (srt (up v C)++srt (up v' D))))).length<=63:=gM (vX _ _) ln
  refine ⟨x,dxx,l6,d,r,n+n',m,_,rfl,o6,g6,by lia,r0,by lia,m61,fun z hz=>(qe.mp hz).2,fun l7 w H7 lv dn bt nl7=>⟨_,rfl,?_⟩⟩
  have s06:=s5.trans s6
  have lw:=lv.1
  refine q x dxx l7 w H7 nx (s06.free nl7) ⟨by lia,?_,fun u u0 uw=>?_⟩ ?_ fun b o e=>bt b o (s06 _ _ e) (aq e nx)
  ·rw [<- (ks w lw).length_eq];exact lv.2.1
  ·rcases (show u<m\/m<=u by lia) with z | z
   ·rcases me with e | e
    ·have:=L1.2.2 u u0 tb_g%
     have:=aiu (v:=u) nC (D:=un C D) fun z m=>R7.mpr (.inl m)
     lia
    ·have:=L2'.2.2 u u0 tb_g%
     have:=aiu (v:=u) nD (D:=un C D) fun z m=>R7.mpr (.inr m)
     lia
   ·rw [<- (ks u z).length_eq];exact lv.2.2 u z uw
  ·rw [ZX,Oh (ks w lw)] at dn;exact dn
open MK
noncomputable def FP (room:Nat) (f g h:Fq):Prop:=∃ cut,gj room (mV f.c g.c) h.c cut/\h.t=f.t+g.t/\h.l=f.l+g.l+cut
structure RP (f g h:Rs):Prop where
 r:h.r=f.r
 tt:h.tt=f.tt+g.tt
 mi:h.mi=lo2 f.mi g.mi
 ma:h.ma=hi2 f.ma g.ma
 st:RG.Stl f.r 0 (f.tn+g.tn) (f.ov+g.ov) (f.un+g.un) (RG.join f.ls g.ls) h.ls h.tn h.ov h.un
noncomputable def WP (room:Nat) (reach:Int) (f g h:Wi):Prop:=h.c=f.c+g.c/\bx h.ps=cZ room (f.c+g.c-reach) (bx f.ps++(bx g.ps).map (shift f.c))
noncomputable def DP (room:Nat) (f g h:Di):Prop:=h.n=f.n+g.n/\h.C=un f.C g.C/\rD room h.v (un f.C g.C)
structure KP (x y z:KS):Prop where
 room:z.room=x.room
 reach:z.reach=x.reach
 span:z.span=x.span
 cm:FP x.room x.cm y.cm z.cm
 wn:FP x.room x.wn y.wn z.wn
 up:RP x.up.x y.up.x z.up.x
 dn:RP x.dn.x y.dn.x z.dn.x
 wi:WP x.room x.reach x.wi y.wi z.wi
 di:DP x.room x.di y.di z.di
 ba:z.ba.q=addQ x.ba.q y.ba.q
/-- two that can be poured together -/
structure Alk (x y:KS) (n m:Nat):Prop where
 room:y.room=x.room
 reach:y.reach=x.reach
 span:y.span=x.span
 kx:Kh x n
 ky:Kh y m
 few:n+m<=63
 nx:x.di.C.Nodup
 ny:y.di.C.Nodup
theorem KP.kh {m:Nat} (h:KP x y z) (a:Alk x y n m):Kh z (n+m):=by
 have gf:∀ {f g k:Fq},FP x.room f g k->Gf x.room f n->Gf y.room g m->Gf z.room k (n+m):=fun {f g k} ⟨cut,ft,e1,e2⟩ ⟨⟨W,o1⟩,t1,k1⟩ ⟨⟨V,o2⟩,t2,k2⟩=>by
  rw [a.room] at o2
  rw [h.room]
  exact ⟨⟨_,by rw [e1,e2];exact (o1.Af o2).fit ft⟩,by rw [e1];lia,by have:=abm ft;have:=xq g.c f.c;lia⟩
 have gr:∀ {f g k:Rs},RP f g k->Gr x.room f n->Gr y.room g m->Gr z.room k (n+m):=fun {f g k} p g1 g2=>by
  have e:g.r=f.r:=by rw [g1.r,g2.r,a.room]
  have h2:=g2.g
  rw [e] at h2
  refine ⟨by rw [p.r,g1.r,h.room],by rw [p.r,p.tt];exact g1.g.Af h2 p.st,by have:=g1.t;have:=g2.t;rw [p.tt];lia,?_⟩
  rw [h.room]
  refine a.kx.rr.imp id fun z=>?_
  have jl:=RG.Bx (P:=fun k=>k.length<=n+m) (l:=f.ls) (m:=g.ls) fun i=>by
   rw [RG.xu]
   have e1:=RG.tL (P:=fun k=>k.length<=n) (g1.sm.resolve_left tb_g%) (dF _) i
   have e2:=RG.tL (P:=fun k=>k.length<=m) (g2.sm.resolve_left (by have:=a.room;lia)) (dF _) i
   lia
  have fe:=a.few
  have fr:=g1.r
  obtain ⟨e,_⟩:=(R6 0 (f.tn+g.tn) (f.ov+g.ov) (f.un+g.un) fun l ml=>by have:=jl l ml;lia).uniq p.st
  rw [e];exact jl
 have l1:=a.kx.wl
 have l2:=a.ky.wl
 have l3:=a.kx.dc
 have l4:=a.ky.dc
 refine ⟨by rw [h.room];exact a.kx.r2,by rw [h.room];exact a.kx.r64,by rw [h.room];exact a.kx.rr,gf h.cm a.kx.cm a.ky.cm,gf h.wn a.kx.wn a.ky.wn,gr h.up a.kx.up a.ky.up,gr h.dn a.kx.dn a.ky.dn,?_,by rw [h.room,h.di.2.1];exact h.di.2.2,?_,a.few⟩
 ·have:=Vt x.room (x.wi.c+y.wi.c-x.reach) (bx x.wi.ps++(bx y.wi.ps).map (shift x.wi.c))
  rw [<- h.wi.2,je,cV,aZ,je,je] at this
  lia
 ·have:=an3 x.di.C y.di.C
  rw [h.di.2.1];lia
theorem Alk.jb {m:Nat} (a:Alk x y n m) {f:Rs} (g1:Gr x.room f n) (g2:Gr y.room g m):(∀ k∈RG.join f.ls g.ls,k.length<=63)/\((∀ k∈RG.join f.ls g.ls,k.length<=31)\/∀ k∈RG.join f.ls g.ls,(k.length:Int)<=f.r):=by
 have fe:=a.few
 have e1:=g1.r
 have e2:=g2.r
 have e3:=a.room
 rcases a.kx.rr with z | z
 ·have jl:=RG.Bx (P:=fun k=>k.length<=30) (l:=f.ls) (m:=g.ls) fun i=>by
   rw [RG.xu]
   have e1:=RG.tL (P:=fun k=>k.length<=15) (fun k hk=>by have:=g1.g.sm k hk;lia) (dF _) i
   have e2:=RG.tL (P:=fun k=>k.length<=15) (fun k hk=>by have:=g2.g.sm k hk;lia) (dF _) i
   lia
  exact ⟨fun k hk=>by have:=jl k hk;lia,.inl fun k hk=>by have:=jl k hk;lia⟩
 ·have jl:=RG.Bx (P:=fun k=>k.length<=n+m) (l:=f.ls) (m:=g.ls) fun i=>by
   rw [RG.xu]
   have e1:=RG.tL (P:=fun k=>k.length<=n) (g1.sm.resolve_left tb_g%) (dF _) i
   have e2:=RG.tL (P:=fun k=>k.length<=m) (g2.sm.resolve_left tb_g%) (dF _) i
   lia
  exact ⟨fun k hk=>by have:=jl k hk;lia,.inr fun k hk=>by have:=jl k hk;lia⟩
theorem FP.eq {g h k:Fq} (a:FP room f g h) (b:FP room f g k):EF h k:=by
 obtain ⟨c1,f1,t1,l1⟩:=a
 obtain ⟨c2,f2,t2,l2⟩:=b
 obtain ⟨e1,e2⟩:=f1.uniq f2
 exact ⟨t1.trans t2.symm,by rw [l1,l2,e2],e1⟩
theorem RP.eq {f h k:Rs} (a:RP f g h) (b:RP f g k):ER h k:=by
 obtain ⟨e1,e2,e3,e4⟩:=b.st.uniq a.st
 exact ⟨a.r.trans b.r.symm,a.tt.trans b.tt.symm,e3,e4,e2,a.mi.trans b.mi.symm,a.ma.trans b.ma.symm,e1⟩
/-- poured twice,they are alike -/
theorem KP.eq {k:KS} (a:KP x y z) (b:KP x y k):Eqp z k :=
 ⟨a.room.trans b.room.symm,a.reach.trans b.reach.symm,a.span.trans b.span.symm,a.cm.eq b.cm,a.wn.eq b.wn,a.up.eq b.up,a.dn.eq b.dn,⟨a.wi.1.trans b.wi.1.symm,a.wi.2.trans b.wi.2.symm⟩,⟨a.di.1.trans b.di.1.symm,a.di.2.2.uniq b.di.2.2,a.di.2.1.trans b.di.2.1.symm⟩,a.ba.trans b.ba.symm⟩
theorem an4 {L:List Addr} {y:Addr}:∀ {i:Nat},L.Nodup->y∉L->(L.set i y).Nodup:=by
 induction L with
 | nil=>intro i h _;exact h
 | cons a r ih =>
  intro i h n
  obtain ⟨h1,h2⟩:=g8.mp h
  have n1:y≠a:=fun z=>n (by rw [z];exact eN)
  have n2:y∉r:=fun z=>n (fB _ z)
  cases i with
  | zero=>exact g8.mpr ⟨n2,h2⟩
  | succ i =>
   refine g8.mpr ⟨fun m=>?_,ih h2 n2⟩
   rcases vV m with z | z
   ·exact h1 z
   ·exact n1 z.symm
theorem Kp.fresh (h:Kp A G x) (n:G p=none):p∉x.all:=by
 intro m
 unfold KS.all at m
 simp only [cP,iW,or_false] at m
 rcases m with rfl | rfl | rfl | rfl | rfl | rfl | rfl | rfl
 ·rw [h.o] at n;cases n
 ·rw [h.cm.o] at n;cases n
 ·rw [h.wn.o] at n;cases n
 ·rw [h.up.o] at n;cases n
 ·rw [h.dn.o] at n;cases n
 ·rw [h.wi.o] at n;cases n
 ·rw [h.di.o] at n;cases n
 ·rw [h.ba.o] at n;cases n
/-- a Z4 parts where one of its places is set -/
structure Frm (A:Ad) (G J:Hp) (x:KS) (p:Addr):Prop where
 b:But x.k G J
 o:∃ C e fs,G x.k=some (.ins C e fs)
 nk:p≠x.k
 nd:∀ i,(x.all.set i p).Nodup
 cm:sX A J x.room x.cm
 wn:sX A J x.room x.wn
 up:RnX A J x.up.p x.up.x
 dn:RnX A J x.dn.p x.dn.x
 wi:Wn A J x.wi.p x.wi.dx x.wi.l x.room x.reach x.wi.c x.wi.ps
 di:Dn A J x.di.p x.di.dx x.di.l x.room x.di.n x.di.v (srt (My.up x.di.v x.di.C))
 ba:Bn A J x.ba.p x.ba.dx x.ba.l x.span x.ba.q
noncomputable abbrev kz (k dk:Addr) (x:KS) (f1 f2:Fq) (f3 f4:Ru) (f5:Wi) (f6:Di) (f7:Ba):KS:=⟨k,dk,x.room,x.reach,x.span,f1,f2,f3,f4,f5,f6,f7⟩
theorem Kp.step {G1:Hp} {z':KS} {fs:List (Str × V)} {R:St->Hp->Prop} (h:Kp A G z) (sG:Same H G) (vk:H z.k=none) (s:Same G G1) (n:G p=none)
  (hz:∀ J,Frm A G1 J z p->J z.k=some (.ins A.fZ z.dk fs)->Kp A J z') (q:∀ J,Kp A J z'->Same H J->H p=none->R σ J):R σ (upd G1 z.k (.ins A.fZ z.dk fs)):=by
 have a:=h.ap
 have o:=s _ _ h.o
 have b:L2.But z.k G1 (L2.upd G1 z.k (.ins A.fZ z.dk fs)):=But.upd
 exact q _ (hz _ ⟨b,⟨_,_,_,o⟩,aU (aq h.o n),fun i=>an4 h.nd (h.fresh n),(h.cm.same s).but b o (aU a.k1),(h.wn.same s).but b o (aU a.k2),(h.up.same s).but b o (aU a.k3),(h.dn.same s).but b o (aU a.k4),(h.wi.same s).but b o (aU a.k5),(h.di.same s).but b o (aU a.k6),(h.ba.same s).but b o (aU a.k7)⟩ ak) (fun b o e=>by rw [aA (aq e vk)];exact (sG.trans s) b o e) (sG.free n)
open MK
noncomputable def aj7 (A:Ad):Sp:=fun vs H Q _=>∃ x:KS,vs=[.ref x.k]/\Kp A H x/\2<=x.room/\x.room<=64/\x.room % 2=0/\∀ (y:KS) (H':Hp),Kp A H' y->Eqp y (K0 x.room x.reach x.span)->(∀ b∈y.all,H b=none)->Same H H'->Q (.ref y.k) H'
theorem ok'39 (T:Tx K mg A):cB P w K mg base CX0 5 A.abN A.BL Q14 (aj7 A):=by
 k_dat (T.F'39.ok,Mq,s) "a"
 ·obtain ⟨x,rfl,_⟩:=h
  rfl
 ·obtain ⟨x,rfl,hK,r2,r64,ev,q⟩:=h
  refine ⟨_,(aC (bQ (gA T.aa8 (abn T) tb_g% rfl T.pR T.b'32 .nil aL (aj (pf 0) (aj (pf 0) (aj (pf 0) au)))))),?_⟩
  refine ⟨_,rfl,rdF hK.o T.bF T.Cu (yI ..) ⟨_,rfl,rdF hK.o T.bF T.Cv (tZ ..) ⟨_,rfl,rdF hK.o T.bF T.pU (rE ..) ?_⟩⟩⟩
  refine fun k dk n1 n2 n3=>⟨k,dk,x.room,x.reach,x.span,rfl,ak,r2,r64,ev,fun y H2 kp eqy ek Z6 _ bt=>⟨rfl,?_⟩⟩
  have up2:Same H (upd (upd H dk (.own k)) k (.ins A.fZ dk [])):=fun b o e=>by rw [aA (aq e n1),aA (aq e n2)];exact e
  rw [<- ek]
  exact q y H2 kp eqy (fun b m=>by
   rcases cP.mp (show b∈y.k::y.pts from m) with z | z
   ·rw [z,ek];exact n1
   ·exact up2.free (Z6 b z)) fun b o e=>bt b o (up2 b o e) (aq e n1)
noncomputable def aj8 (A:Ad):Sp:=fun vs H Q _=>∃ (x y:KS) (n m:Nat),vs=[.ref x.k,.ref y.k]/\Kp A H x/\Kp A H y/\Alk x y n m/\∀ (z:KS) (H':Hp),Kp A H' z->KP x y z->(∀ b∈z.all,H b=none)->(∀ b∈z.ems,H b=none)->Same H H'->Q (.ref z.k) H'
/-- the object alone -/
noncomputable def Ko (A:Ad) (H:Hp) (x:KS):Prop:=H x.k=some (.ins A.fZ x.dk (kf (.int x.room) (.int x.reach) (.int x.span) (.ref x.cm.p) (.ref x.wn.p) (.ref x.up.p) (.ref x.dn.p) (.ref x.wi.p) (.ref x.di.p) (.ref x.ba.p)))
noncomputable def aiw (A:Ad):Sp:=fun vs H Q E=>aj8 A vs H Q E\/∃ x y:KS,vs=[.ref x.k,.ref y.k]/\Ko A H x/\Ko A H y/\(x.room≠y.room\/x.reach≠y.reach\/x.span≠y.span)/\E (.ref A.iz) none H
theorem Vv (T:Tx K mg A):cB P w K mg base (CXE P w) 6 A.abO A.Vg Q1 (aiw A):=by
 k_dat (T.acZ.okE,Oe,s) "a"
 ·rcases h with ⟨x,y,n,m,rfl,_⟩ | ⟨x,y,rfl,_⟩ <;> rfl
 ·skip
  refine ⟨_,(ao (dO (PT.nox (PW.pt (pw_or (aQ pC (pf 0) (pf 1) (aY _)) (pw_or (aQ pC (pf 0) (pf 1) (aY _)) (pw_or1 (aQ pC (pf 0) (pf 1) (aY _))))))) (aC (pH Jz T.iZ rfl T.mY (aj gF au))) cG)
   (ao (PS.nox (psS 2 Oe.nd (aF (ok'39 T) tb_g% T.F'39 aL (aj (pv 0) au))))
   (ao (PS.nox (aV (pv 2) (aF (ak2 T) tb_g% T.F'33 j8 (aj (pf 0) (aj (pf 1) au))) rfl))
   (ao (PS.nox (aV (pv 2) (aF (ak2 T) tb_g% T.F'33 j8 (aj (pf 0) (aj (pf 1) au))) rfl))
   (ao (PS.nox (aV (pv 2) (aF (ak4 T) tb_g% T.F'35 j8 (aj (pf 0) (aj (pf 1) au))) rfl))
   (ao (PS.nox (aV (pv 2) (aF (ak4 T) tb_g% T.F'35 j8 (aj (pf 0) (aj (pf 1) au))) rfl))
   (ao (PS.nox (aV (pv 2) (aF (ok'36 T) tb_g% T.F'36 j8 (aj (pf 0) (aj (pf 1) au))) rfl))
   (ao (PS.nox (aV (pv 2) (aF (ok'38 T) tb_g% T.F'38 j8 (aj (pf 0) (aj (pf 1) au))) rfl))
   (ao (PS.nox (aV (pv 2) (aF (ok'37 T) tb_g% T.F'37 j8 (aj (pf 0) (aj (pf 1) au))) rfl))
   (aC (PS.nox (bQ (pv 2))))))))))))),?_⟩
  rcases h with ⟨x,y,n,m,rfl,hX,hY,al,q⟩ | ⟨x,y,rfl,hX,hY,hd,q⟩
  rotate_left
  ·skip
   refine ⟨_,rfl,rdF hX T.bF T.Cu (yI ..) ⟨_,rfl,rdF hY T.bF T.Cu (yI ..) ⟨rfl,_,rfl,fH (fun h=>oG ⟨by show 1<=sizeLine;decide,q⟩) (fun h1=>?_)⟩⟩⟩
   refine ⟨_,rfl,rdF hX T.bF T.Cv (tZ ..) ⟨_,rfl,rdF hY T.bF T.Cv (tZ ..) ⟨rfl,_,rfl,fH (fun h=>oG ⟨by show 1<=sizeLine;decide,q⟩) (fun h2=>?_)⟩⟩⟩
   refine ⟨_,rfl,rdF hX T.bF T.pU (rE ..) ⟨_,rfl,rdF hY T.bF T.pU (rE ..) ⟨rfl,_,rfl,?_⟩⟩⟩
   have no:∀ {a b:Int},¬ (!decide (V.int a=V.int b))=true->a=b:=fun {a b} h=>by
    by_cases z:a=b
    ·exact z
    ·exfalso;apply h;rw [decide_eq_false (fun y=>z (V.int.inj y))];rfl
   have e1:=no h1
   have e2:=no h2
   have hs:x.span≠y.span:=by
    rcases hd with z | z | z
    ·exact absurd (amO e1) z
    ·exact absurd e2 z
    ·exact z
   rw [decide_eq_false (fun y=>hs (V.int.inj y))]
   k_dat q "h"
  refine ⟨_,rfl,rdF hX.o T.bF T.Cu (yI ..) ⟨_,rfl,rdF hY.o T.bF T.Cu (yI ..) ⟨rfl,_,rfl,pD (by rw [al.room]) ?_⟩⟩⟩
  refine ⟨_,rfl,rdF hX.o T.bF T.Cv (tZ ..) ⟨_,rfl,rdF hY.o T.bF T.Cv (tZ ..) ⟨rfl,_,rfl,pD (by rw [al.reach]) ?_⟩⟩⟩
  refine ⟨_,rfl,rdF hX.o T.bF T.pU (rE ..) ⟨_,rfl,rdF hY.o T.bF T.pU (rE ..) ⟨rfl,_,rfl,pD (by rw [al.span]) ?_⟩⟩⟩
  have r2:=al.kx.r2
  have r64:=al.kx.r64
  have ev:x.room % 2=0:=by have:=al.kx.up.g.ev;have:=al.kx.up.r;lia
  dsimp only [akq]
  refine sq fun R hR=>?_
  refine ⟨_,rfl,x,rfl,hX,r2,r64,ev,fun z0 H1 kp0 eq0 fr0 s0=>?_⟩
  obtain ⟨k,dk,r0,rc,sp,c1,c2,u1,u2,w5,d6,b7⟩:=z0
  obtain rfl:r0=x.room:=eq0.room
  obtain rfl:rc=x.reach:=eq0.reach
  obtain rfl:sp=x.span:=eq0.span
  have vk:H k=none:=fr0 k (eN ..)
  have kG:=kp0
  have sG:=s0
  have X:=hX.same sG
  have Y:=hY.same sG
  clear kp0 s0 eq0 fr0
  obtain ⟨W1,ok1⟩:=al.kx.cm.ok
  obtain ⟨W2,ok2⟩:=al.ky.cm.ok
  obtain ⟨W3,ok3⟩:=al.kx.wn.ok
  obtain ⟨W4,ok4⟩:=al.ky.wn.ok
  have yr:=al.room
  have er1:y.up.x.r=x.up.x.r:=by rw [al.kx.up.r,al.ky.up.r,al.room]
  have er2:y.dn.x.r=x.dn.x.r:=by rw [al.kx.dn.r,al.ky.dn.r,al.room]
  refine hR _ _ (sq fun R hR=>?_)
  refine ⟨_,rfl,rdF X.o T.bF T.xP (Ii ..) ⟨_,rfl,rdF Y.o T.bF T.xP (Ii ..) (.inl ⟨x.cm.p,x.cm.dx,x.cm.d,y.cm.p,y.cm.dx,y.cm.d,x.room,x.cm.t,x.cm.l,y.cm.t,y.cm.l,x.cm.c,y.cm.c,rfl,X.cm.o,X.cm.d,(by rw [<- al.room];exact Y.cm.o),Y.cm.d,ok1.nd,ok1.pos,ok2.pos,by have:=xq y.cm.c x.cm.c;have:=al.kx.cm.k;have:=al.ky.cm.k;have:=al.few;lia,by have:=ok1.len;have:=ok2.len;lia,fun p dx d b cut G1 np ne ft o1 o2 s1=>?_⟩)⟩⟩
  obtain ⟨f1,rfl,F1,D1⟩:∃ f:Fq,f.p=p/\sX A G1 x.room f/\FP x.room x.cm y.cm f:=⟨⟨p,dx,d,_,_,b⟩,rfl,⟨o1,o2⟩,cut,ft,rfl,rfl⟩
  refine ⟨_,rfl,k,_,dk,_,rfl,s1 _ _ kG.o,T.bF,T.xP,(by show 10<1000;decide),kG.step (z':=kz k dk x f1 c2 u1 u2 w5 d6 b7) sG vk s1 np (fun J F o=>⟨by rw [Vp] at o;exact o,(let ⟨_,_,_,g⟩:=F.o;F1.but F.b g F.nk),F.wn,F.up,F.dn,F.wi,F.di,F.ba,F.nd 1⟩) fun J1 K2 sG2 v1=>hR _ _ ?_⟩
  clear kG sG s1 np
  have kG:=K2
  have sG:=sG2
  have X:=hX.same sG
  have Y:=hY.same sG
  clear K2 sG2
  refine (sq fun R hR=>?_)
  refine ⟨_,rfl,rdF X.o T.bF T.xQ (Ij ..) ⟨_,rfl,rdF Y.o T.bF T.xQ (Ij ..) (.inl ⟨x.wn.p,x.wn.dx,x.wn.d,y.wn.p,y.wn.dx,y.wn.d,x.room,x.wn.t,x.wn.l,y.wn.t,y.wn.l,x.wn.c,y.wn.c,rfl,X.wn.o,X.wn.d,(by rw [<- al.room];exact Y.wn.o),Y.wn.d,ok3.nd,ok3.pos,ok4.pos,by have:=xq y.wn.c x.wn.c;have:=al.kx.wn.k;have:=al.ky.wn.k;have:=al.few;lia,by have:=ok3.len;have:=ok4.len;lia,fun p dx d b cut G1 np ne ft o1 o2 s1=>?_⟩)⟩⟩
  obtain ⟨f2,rfl,F2,D2⟩:∃ f:Fq,f.p=p/\sX A G1 x.room f/\FP x.room x.wn y.wn f:=⟨⟨p,dx,d,_,_,b⟩,rfl,⟨o1,o2⟩,cut,ft,rfl,rfl⟩
  refine ⟨_,rfl,k,_,dk,_,rfl,s1 _ _ kG.o,T.bF,T.xQ,(by show 10<1000;decide),kG.step (z':=kz k dk x f1 f2 u1 u2 w5 d6 b7) sG vk s1 np (fun J F o=>⟨by rw [Vq] at o;exact o,F.cm,(let ⟨_,_,_,g⟩:=F.o;F2.but F.b g F.nk),F.up,F.dn,F.wi,F.di,F.ba,F.nd 2⟩) fun J2 K2 sG2 v2=>hR _ _ ?_⟩
  clear kG sG s1 np
  have kG:=K2
  have sG:=sG2
  have X:=hX.same sG
  have Y:=hY.same sG
  clear K2 sG2
  have L1:=jf al.kx.up.g al.kx.up.t al.kx.few
  have L2':=jf al.ky.up.g al.ky.up.t al.ky.few
  refine sq fun R hR=>?_
  refine ⟨_,rfl,rdF X.o T.bF T.xR (abl ..) ⟨_,rfl,rdF Y.o T.bF T.xR (abl ..) (.inl ⟨x.up.p,x.up.x.dx,x.up.x.a,y.up.p,y.up.x.dx,y.up.x.a,x.up.x.bs,y.up.x.bs,x.up.x.r,x.up.x.tt,x.up.x.ov,x.up.x.un,x.up.x.tn,y.up.x.tt,y.up.x.ov,y.up.x.un,y.up.x.tn,x.up.x.mi,x.up.x.ma,y.up.x.mi,y.up.x.ma,x.up.x.ls,y.up.x.ls,rfl,X.up,(by rw [<- er1];exact Y.up),al.kx.up.g.r2,al.kx.up.g.r64,by have:=L1.1;lia,by have:=L2'.1;lia,(al.jb al.kx.up al.ky.up).1,(al.jb al.kx.up al.ky.up).2,L1.2,L2'.2,fun p dx d bs2 out tn2 ov2 un2 G1 st rn np nd2 nc2 s1=>?_⟩)⟩⟩
  obtain ⟨f3,rfl,F3,D3,g3⟩:∃ f:Ru,f.p=p/\RnX A G1 f.p f.x/\RP x.up.x y.up.x f.x/\H f.x.a=none/\∀ c∈f.x.bs,H c=none:=⟨⟨p,⟨dx,d,bs2,_,_,ov2,un2,tn2,_,_,out⟩⟩,rfl,rn,⟨rfl,rfl,rfl,rfl,st⟩,sG.free nd2,fun c m=>sG.free (nc2 c m)⟩
  refine ⟨_,rfl,k,_,dk,_,rfl,s1 _ _ kG.o,T.bF,T.xR,(by show 10<1000;decide),kG.step (z':=kz k dk x f1 f2 f3 u2 w5 d6 b7) sG vk s1 np (fun J F o=>⟨by rw [ac8] at o;exact o,F.cm,F.wn,(let ⟨_,_,_,g⟩:=F.o;F3.but F.b g F.nk),F.dn,F.wi,F.di,F.ba,F.nd 3⟩) fun J3 K2 sG2 v3=>hR _ _ ?_⟩
  clear kG sG s1 np
  have kG:=K2
  have sG:=sG2
  have X:=hX.same sG
  have Y:=hY.same sG
  clear K2 sG2
  have L1:=jf al.kx.dn.g al.kx.dn.t al.kx.few
  have L2':=jf al.ky.dn.g al.ky.dn.t al.ky.few
  refine sq fun R hR=>?_
  refine ⟨_,rfl,rdF X.o T.bF T.xT (Ik ..) ⟨_,rfl,rdF Y.o T.bF T.xT (Ik ..) (.inl ⟨x.dn.p,x.dn.x.dx,x.dn.x.a,y.dn.p,y.dn.x.dx,y.dn.x.a,x.dn.x.bs,y.dn.x.bs,x.dn.x.r,x.dn.x.tt,x.dn.x.ov,x.dn.x.un,x.dn.x.tn,y.dn.x.tt,y.dn.x.ov,y.dn.x.un,y.dn.x.tn,x.dn.x.mi,x.dn.x.ma,y.dn.x.mi,y.dn.x.ma,x.dn.x.ls,y.dn.x.ls,rfl,X.dn,(by rw [<- er2];exact Y.dn),al.kx.dn.g.r2,al.kx.dn.g.r64,by have:=L1.1;lia,by have:=L2'.1;lia,(al.jb al.kx.dn al.ky.dn).1,(al.jb al.kx.dn al.ky.dn).2,L1.2,L2'.2,fun p dx d bs2 out tn2 ov2 un2 G1 st rn np nd2 nc2 s1=>?_⟩)⟩⟩
  obtain ⟨f4,rfl,F4,D4,g4⟩:∃ f:Ru,f.p=p/\RnX A G1 f.p f.x/\RP x.dn.x y.dn.x f.x/\H f.x.a=none/\∀ c∈f.x.bs,H c=none:=⟨⟨p,⟨dx,d,bs2,_,_,ov2,un2,tn2,_,_,out⟩⟩,rfl,rn,⟨rfl,rfl,rfl,rfl,st⟩,sG.free nd2,fun c m=>sG.free (nc2 c m)⟩
  refine ⟨_,rfl,k,_,dk,_,rfl,s1 _ _ kG.o,T.bF,T.xT,(by show 10<1000;decide),kG.step (z':=kz k dk x f1 f2 f3 f4 w5 d6 b7) sG vk s1 np (fun J F o=>⟨by rw [Vr] at o;exact o,F.cm,F.wn,F.up,(let ⟨_,_,_,g⟩:=F.o;F4.but F.b g F.nk),F.wi,F.di,F.ba,F.nd 4⟩) fun J4 K2 sG2 v4=>hR _ _ ?_⟩
  clear kG sG s1 np
  have kG:=K2
  have sG:=sG2
  have X:=hX.same sG
  have Y:=hY.same sG
  clear K2 sG2
  refine sq fun R hR=>?_
  refine ⟨_,rfl,rdF X.o T.bF T.sV (oO ..) ⟨_,rfl,rdF Y.o T.bF T.sV (oO ..) (.inl ⟨x.wi.p,x.wi.dx,x.wi.l,y.wi.p,y.wi.dx,y.wi.l,x.room,x.reach,x.wi.c,y.wi.c,x.wi.ps,y.wi.ps,rfl,X.wi,(by rw [<- al.room,<- al.reach];exact Y.wi),by have:=al.kx.wl;have:=al.ky.wl;have:=al.few;lia,by lia,by lia,fun p5 dx5 d5 ps5 G1 np nd5 eb5 wn5 s1=>?_⟩)⟩⟩
  have vd5:=sG.free nd5
  refine ⟨_,rfl,k,_,dk,_,rfl,s1 _ _ kG.o,T.bF,T.sV,(by show 10<1000;decide),kG.step (z':=kz k dk x f1 f2 f3 f4 ⟨p5,dx5,d5,x.wi.c+y.wi.c,ps5⟩ d6 b7) sG vk s1 np (fun J F o=>⟨by rw [Mt] at o;exact o,F.cm,F.wn,F.up,F.dn,(let ⟨_,_,_,g⟩:=F.o;wn5.but F.b g F.nk),F.di,F.ba,F.nd 5⟩) fun J5 K2 sG2 v5=>hR _ _ ?_⟩
  clear kG sG s1 np
  have kG:=K2
  have sG:=sG2
  have X:=hX.same sG
  have Y:=hY.same sG
  clear K2 sG2
  refine sq fun R hR=>?_
  refine ⟨_,rfl,rdF X.o T.bF T.sW (yJ ..) ⟨_,rfl,rdF Y.o T.bF T.sW (yJ ..) (.inl ⟨x.di.p,x.di.dx,x.di.l,y.di.p,y.di.dx,y.di.l,x.room,x.di.n,x.di.v,y.di.n,y.di.v,x.di.C,y.di.C,rfl,X.di,(by rw [<- al.room];exact Y.di),al.kx.dl,(by rw [<- al.room];exact al.ky.dl),al.nx,al.ny,by lia,by lia,by have:=al.kx.dc;have:=al.ky.dc;have:=al.few;lia,fun p6 dx6 l6 v6' G1 np nd6 ls6 dn6 s1=>?_⟩)⟩⟩
  have vl6:=sG.free nd6
  refine ⟨_,rfl,k,_,dk,_,rfl,s1 _ _ kG.o,T.bF,T.sW,(by show 10<1000;decide),kG.step (z':=kz k dk x f1 f2 f3 f4 ⟨p5,dx5,d5,x.wi.c+y.wi.c,ps5⟩ ⟨p6,dx6,l6,x.di.n+y.di.n,v6',un x.di.C y.di.C⟩ b7) sG vk s1 np (fun J F o=>⟨by rw [Vs] at o;exact o,F.cm,F.wn,F.up,F.dn,F.wi,(let ⟨_,_,_,g⟩:=F.o;dn6.but F.b g F.nk),F.ba,F.nd 6⟩) fun J6 K2 sG2 v6=>hR _ _ ?_⟩
  clear kG sG s1 np
  have kG:=K2
  have sG:=sG2
  have X:=hX.same sG
  have Y:=hY.same sG
  clear K2 sG2
  refine sq fun R hR=>?_
  refine ⟨_,rfl,rdF X.o T.bF T.uW (qg ..) ⟨_,rfl,rdF Y.o T.bF T.uW (qg ..) (.inl ⟨x.ba.p,x.ba.dx,x.ba.l,y.ba.p,y.ba.dx,y.ba.l,x.span,x.ba.q,y.ba.q,rfl,X.ba,(by rw [<- al.span];exact Y.ba),fun p7 dx7 l7 G1 np bn7 s1=>?_⟩)⟩⟩
  refine ⟨_,rfl,k,_,dk,_,rfl,s1 _ _ kG.o,T.bF,T.uW,(by show 10<1000;decide),kG.step (z':=kz k dk x f1 f2 f3 f4 ⟨p5,dx5,d5,x.wi.c+y.wi.c,ps5⟩ ⟨p6,dx6,l6,x.di.n+y.di.n,v6',un x.di.C y.di.C⟩ ⟨p7,dx7,l7,addQ x.ba.q y.ba.q⟩) sG vk s1 np (fun J F o=>⟨by rw [Lg] at o;exact o,F.cm,F.wn,F.up,F.dn,F.wi,F.di,(let ⟨_,_,_,g⟩:=F.o;bn7.but F.b g F.nk),F.nd 7⟩) fun J7 K2 sG2 v7=>hR _ _ ?_⟩
  clear kG sG s1 np
  have kG:=K2
  have sG:=sG2
  have X:=hX.same sG
  have Y:=hY.same sG
  clear K2 sG2
  refine ⟨_,rfl,q (kz k dk x f1 f2 f3 f4 ⟨p5,dx5,d5,x.wi.c+y.wi.c,ps5⟩ ⟨p6,dx6,l6,x.di.n+y.di.n,v6',un x.di.C y.di.C⟩ ⟨p7,dx7,l7,addQ x.ba.q y.ba.q⟩) J7 kG ⟨rfl,rfl,rfl,D1,D2,D3,D4,⟨rfl,eb5⟩,⟨rfl,rfl,ls6⟩,rfl⟩ (fun b m=>?_) (fun b m=>?_) sG⟩
  ·unfold KS.all at m
   simp only [cP,iW,or_false] at m
   rcases m with rfl | rfl | rfl | rfl | rfl | rfl | rfl | rfl
   all_goals assumption
  ·unfold KS.ems at m
   simp only [cP,cR] at m
   rcases m with rfl | rfl | rfl | rfl | m | m
   ·exact g3.1
   ·exact g4.1
   ·exact vd5
   ·exact vl6
   ·exact g3.2 b m
   ·exact g4.2 b m
open MK
/-- what is left to write -/
noncomputable def an5 (σ:St) (_:Hp):Nat:=match σ with
 | [_,_,some (.int x)]=>x.toNat
 | _=>0
theorem log2_small {i:Int} (h:i.natAbs<2 ^ k) (hk:0<k):i.natAbs.log2<k:=by
 by_cases z:i.natAbs=0
 ·rw [z];exact hk
 ·exact (aeF z).mpr h
theorem abo (css:List (List Char)):iu (bG "") ((css.map Dec.tx).reverse)=Dec.tx css.reverse.flatten:=by
 rw [<- uh,show bG "" = (⟨#[]⟩:Str) by decide +kernel];exact Dec.join_none _
theorem aix (css:List (List Char)):((css.map Dec.tx).map (·.length)).sum=css.reverse.flatten.length:=by
 rw [List.length_flatten,uh,adK,n8]
 exact congrArg List.sum (Ip fun c _=>Dec.Fz c)
noncomputable def spFig:Sp:=fun vs H Q _=>∃ n:Int,vs=[.int n]/\n.natAbs<2 ^ 1000/\∀ H',Same H H'->Q (.str (bG (toString n))) H'
theorem ak6 (T:Tx K mg A):cB P w K mg base CX0 1 A.abP A.N5 ["number"] spFig:=by
 k_dat (T.F'41.ok,uZ,s) "a"
 ·obtain ⟨n,rfl,_⟩:=h
  rfl
 ·obtain ⟨n,rfl,hn,q⟩:=h
  obtain ⟨_,R9,Sg⟩:=T.ajF
  obtain ⟨_,Hs,Ht⟩:=T.Hh
  refine ⟨_,(ao (psS 1 uZ.nd (dR au))
   (ao (psS 2 uZ.nd (bO acY (by rfl) T.n_abs alI (aj (pv 0) au)))
   (ao (jD jB (aQ aaF (pv 2) (fW (v:=.int 1000000000000000000000000000000) rfl R9 Sg) (aY _)) (ao (bC (jG mL sY sZ d8 (pv 1) (aj (jG JB PySem.F.slot_str_zfill PySem.F.type_str_zfill ahR (ji Bj (by rfl) T.akN afh (aj (aK iU (pv 2) (fW (v:=.int 1000000000000000000000000000000) rfl R9 Sg)) au)) (aj (fW (v:=.int 30) rfl Hs Ht) au)) au)))
   (aC (psS 2 uZ.nd (aK ahS (pv 2) (fW (v:=.int 1000000000000000000000000000000) rfl R9 Sg))))))
   (ao (bC (jG mL sY sZ d8 (pv 1) (aj (ji Bj (by rfl) T.akN afh (aj (pv 2) au)) au)))
   (ao (dO (aQ vC (pv 0) aB (aY _)) (aC (bC (jG mL sY sZ d8 (pv 1) (aj gF au)))) cG)
   (aC (bQ (ZM T.Am gF (aj (pv 1) au) rfl)))))))),?_⟩
  refine ⟨by show 0<=sizeLine;decide,fun L hL=>?_⟩
  have s1:=Same.new (o:=.lst []) hL
  have f1:(upd H L (.lst [])) L=some (.lst (([]:List (List Char)).map fun c=>V.str (Dec.tx c))):=ak
  generalize upd H L (.lst [])=H1 at s1 f1 ⊢
  refine ⟨_,rfl,n,rfl,?_⟩
  have e:(if n<0 then -n else n)=(n.natAbs:Int):=by split <;> lia
  rw [e]
  have pE:(1000000000000000000000000000000:Nat)=10 ^ 30:=by decide
  refine jE (fun σ G=>∃ (ps:List (List Char)) (m:Nat),σ=[some (.int n),some (.ref L),some (.int (m:Int))]/\G L=some (.lst (ps.map fun c=>V.str (Dec.tx c)))/\Same H G/\Dec.dg n.natAbs=Dec.dg m++ps.reverse.flatten/\ps.length<1000/\m*2 ^ ps.length<=n.natAbs) an5 ⟨[],n.natAbs,rfl,f1,s1,by simp,by decide,by simp⟩ ?_
   (fun σ H Q Q' hq ⟨v,e,i,j,e1,e2,k,e3,q⟩=>⟨v,e,i,j,e1,e2,k,e3,hq _ _ q⟩)
  rintro σ G ⟨ps,m,rfl,gL,sG,ed,lp,mp⟩
  refine ⟨_,rfl,_,_,rfl,rfl,_,rfl,fH (fun h=>?_) (fun h=>?_)⟩
  ·have h:1000000000000000000000000000000<=m:=by have:=of_decide_eq_true h;lia
   refine ⟨_,rfl,.inl ⟨rfl,_,.inl (.inl gL)⟩,?_⟩
   refine ⟨_,rfl,_,_,rfl,rfl,(by show (0:Int)<1000000000000000000000000000000;decide),(m:Int) % 1000000000000000000000000000000,rfl,?_,?_⟩
   ·have e2:(2:Nat) ^ 100=1267650600228229401496703205376:=by decide
    exact uz (log2_small (k:=100) tb_g% (by decide)) (by decide)
   have ei:(m:Int) % 1000000000000000000000000000000=((m % 10 ^ 30:Nat):Int):=by rw [<- pE];lia
   have eq:(m:Int) / 1000000000000000000000000000000=((m / 10 ^ 30:Nat):Int):=by rw [<- pE];lia
   have ml:m % 10 ^ 30<10 ^ 30:=Xu _ (by decide)
   have zt:Qz (bG (toString ((m:Int) % 1000000000000000000000000000000))) 30=Dec.tx (Dec.pad 30 (m % 10 ^ 30)):=by rw [ei,Dec.BJ];exact Dec.ahQ (by decide) ml
   refine ⟨rfl,_,30,rfl,rfl,by decide,?_⟩
   rw [zt]
   refine ⟨L,_,_,rfl,rfl,gL,bB (by rw [aZ];lia),?_⟩
   have m1:0<m / 10 ^ 30:=Nat.div_pos (by rw [<- pE];exact h) (by decide)
   have lt2:m / 10 ^ 30*2<=m:=by rw [<- pE];lia
   have p2:m / 10 ^ 30*2 ^ (ps.length+1)<=n.natAbs:=by
    have e2:2 ^ (ps.length+1)=2*2 ^ ps.length:=by rw [kW,rM]
    rw [e2,<- o8]
    exact gM (wH _ lt2) mp
   refine ⟨_,rfl,_,_,rfl,rfl,⟨by decide,by decide⟩,⟨ps++[Dec.pad 30 (m % 10 ^ 30)],m / 10 ^ 30,by rw [<- eq];rfl,?_,fun b o e=>?_,?_,?_,by rw [cV];exact p2⟩,?_⟩
   ·rw [cC];exact ak
   ·rw [aA (aq e hL)];exact sG b o e
   ·have:=Dec.Vb m1 30 (by decide) ml
    rw [show m / 10 ^ 30*10 ^ 30+m % 10 ^ 30=m from Nat.div_add_mod' _ _] at this
    rw [ed,Ow,this,jx];rfl
   ·rw [cV]
    show ps.length+1<1000
    rcases ig (ps.length+1) 1000 with z | z
    ·exact z
    ·have h1:=yR (show 0<2 by decide) z
     have h2:=wH (2 ^ (ps.length+1)) m1
     lia
   ·show ((m:Int) / 1000000000000000000000000000000).toNat<(m:Int).toNat
    lia
  ·have cl:(Dec.dg n.natAbs).length<=400:=Dec.Fy 400 (by decide) (uz hn (by decide))
   refine ⟨_,rfl,.inl ⟨rfl,_,.inl (.inl gL)⟩,_,rfl,(m:Int),rfl,?_,?_⟩
   ·have:m<=n.natAbs:=gM (Nat.le_mul_of_pos_right _ (Nat.two_pow_pos _)) mp
    exact uz (log2_small (k:=1000) tb_g% (by decide)) (by decide)
   rw [Dec.BJ]
   refine ⟨L,_,_,rfl,rfl,gL,bB (by rw [aZ];lia),?_⟩
   have g2:(upd G L (.lst (ps.map (fun c=>V.str (Dec.tx c))++[V.str (Dec.tx (Dec.dg m))]))) L=some (.lst ((ps++[Dec.dg m]).map fun c=>V.str (Dec.tx c))):=by rw [cC];exact ak
   have s2:Same H (upd G L (.lst (ps.map (fun c=>V.str (Dec.tx c))++[V.str (Dec.tx (Dec.dg m))]))):=fun b o e=>by rw [aA (aq e hL)];exact sG b o e
   generalize upd G L (.lst (ps.map (fun c=>V.str (Dec.tx c))++[V.str (Dec.tx (Dec.dg m))]))=G2 at g2 s2 ⊢
   have fl:(ps++[Dec.dg m]).reverse.flatten=Dec.dg n.natAbs:=by rw [ed,Ow];rfl
   have ll:(ps++[Dec.dg m]).length<=1000:=by rw [cV];show ps.length+1<=1000;lia
   generalize ps++[Dec.dg m]=css at g2 fl ll
   refine ⟨_,rfl,_,_,rfl,rfl,_,rfl,fH (fun h0=>?_) (fun h0=>?_)⟩
   ·have h0:n<0:=of_decide_eq_true h0
    refine ⟨_,rfl,.inl ⟨rfl,_,.inl (.inl g2)⟩,L,_,_,rfl,rfl,g2,bB (by rw [aZ];lia),?_⟩
    have g3:(upd G2 L (.lst (css.map (fun c=>V.str (Dec.tx c))++[V.str (bG "-")]))) L=some (.lst (((css++[['-']]).map Dec.tx).map V.str)):=by
     rw [ak,show bG "-" = Dec.tx ['-'] by decide +kernel,cC,cC,n8];rfl
    have s3:Same H (upd G2 L (.lst (css.map (fun c=>V.str (Dec.tx c))++[V.str (bG "-")]))):=fun b o e=>by rw [aA (aq e hL)];exact s2 b o e
    generalize upd G2 L (.lst (css.map (fun c=>V.str (Dec.tx c))++[V.str (bG "-")]))=G3 at g3 s3 ⊢
    have e1:(css++[['-']]).reverse.flatten = '-'::Dec.dg n.natAbs:=by rw [Ow,<- fl];rfl
    refine ⟨bG "",rfl,_,rfl,L,(css++[['-']]).map Dec.tx,rfl,.inl (.inl g3),by decide +kernel,?_,?_⟩
    ·rw [aix,e1,aZ,cV]
     show (Dec.dg n.natAbs).length+1+(css.length+1)<=1048576
     lia
    ·rw [abo,e1,<- Dec.RD tb_g%,show -(n.natAbs:Int)=n by lia]
     exact q _ s3
   ·have h0:¬ n<0:=fun z=>h0 (decide_eq_true z)
    refine ⟨bG "",rfl,_,rfl,L,css.map Dec.tx,rfl,.inl (.inl (by rw [g2,n8];rfl)),by decide +kernel,?_,?_⟩
    ·rw [aix,fl,aZ]
     lia
    ·rw [abo,fl,<- Dec.BJ,show (n.natAbs:Int)=n by lia]
     exact q _ s2
open MK
noncomputable def sI (n:Int):Str:=bG (toString n)
theorem an6 {n:Int} (h:n.natAbs<2 ^ 1000):(sI n).length<=401:=by
 have cl:(Dec.dg n.natAbs).length<=400:=Dec.Fy 400 (by decide) (uz h (by decide))
 unfold sI
 by_cases z:n<0
 ·rw [show n = -(n.natAbs:Int) by lia,Dec.RD tb_g%,Dec.Fz]
  show (Dec.dg n.natAbs).length+1<=401
  lia
 ·rw [show n=(n.natAbs:Int) by lia,Dec.BJ,Dec.Fz]
  lia
theorem Gd:∀ {ns:List Int},(∀ n∈ns,n.natAbs<2 ^ 1000)->((ns.map sI).map (·.length)).sum<=401*ns.length
 | [],_=>bh _
 | n::ns,h=>by
  have h1:=an6 (h n eN)
  have h2:=Gd fun k m=>h k (fB n m)
  rw [dW,dW,jr,dH]
  lia
noncomputable def spRow:Sp:=fun vs H Q _=>∃ (a:Addr) (ns:List Int),vs=[.ref a]/\H a=some (.lst (ns.map V.int))/\(∀ n∈ns,n.natAbs<2 ^ 1000)/\ns.length<=900/\∀ H',Same H H'->Q (.str (iu (bG " ") (ns.map sI))) H'
theorem Ol (T:Tx K mg A):cB P w K mg base CX0 2 A.abQ A.akG ["numbers"] spRow:=by
 k_dat (T.ZQ.ok,anz,s) "a"
 ·obtain ⟨a,ns,rfl,_⟩:=h
  rfl
 ·obtain ⟨a,ns,rfl,ha,hb,hn,q⟩:=h
  refine ⟨_,(aC (bQ (jG JB Ej Ql RK gF (aj (Rw (cl:=[]) (N:=["number"]) (caps:=[]) (tt:=_) (te:=_) rfl (by with_unfolding_all rfl) tb_g% rfl tb_g% trivial (xr (by with_unfolding_all rfl)) tb_g% rfl rfl rfl (gQ.at (k:=1) (show gQ _ _ _ _ 1 [] from trivial)) (mH (pv 0)) (fun _ _ _ _=>HJ) (fun _ _ _ _=>(aF (ak6 T) (by exact hr.mono (by decide)) T.F'41 aL (aj (pv 0) au)))) au)))),?_⟩
  refine ⟨rfl,_,rfl,a,rfl,⟨_,.inl (.inl ha)⟩,fun D hD=>?_⟩
  refine Fv (K:=K) (a:=a) (xs:=ns.map V.int) (fun i ys G=>ys=(ns.take i).map (fun n=>V.str (sI n))/\G D=some (.lst ys)/\Same H G) ⟨rfl,ak,Same.new hD⟩ ?_ ?_ ?_ ?_
  ·rintro i ys G hi ⟨rfl,gD,sG⟩
   refine ⟨.inl (.inl (sG _ _ ha)),gD,bB ?_⟩
   rw [aZ,jy];lia
  ·rintro i ys G x hx ⟨rfl,gD,sG⟩
   obtain ⟨n,hi,rfl⟩:=int_at hx
   refine ⟨_,rfl,n,rfl,hb n (List.mem_of_getElem? hi),fun G1 s1=>?_⟩
   refine ⟨s1 _ _ gD,?_,ak,fun b o e=>?_⟩
   ·rw [nZ,hi,cC];rfl
   ·rw [aA (aq e hD)];exact s1 _ _ (sG b o e)
  ·rintro ys G ⟨rfl,gD,sG⟩
   rw [aZ,qu] at gD
   have sm:=Gd hb
   refine ⟨bG " ",D,ns.map sI,rfl,rfl,.inl (.inl (by rw [gD,n8];rfl)),by decide +kernel,?_,q _ sG⟩
   rw [aZ];lia
  ·exact fun σ H R R' hr ⟨v,e,n,en,hn,q⟩=>⟨v,e,n,en,hn,fun H1 s1=>hr _ _ (q H1 s1)⟩
open MK
noncomputable def bI (b:WN.Box):List Int:=[b.f,b.l,b.s]
noncomputable def an7 (A:Ad):Sp:=fun vs H Q _=>∃ (p dx l:Addr) (r k c:Int) (ps:List Bp),vs=[.ref p]/\Wn A H p dx l r k c ps/\(∀ n∈c::(bx ps).flatMap bI,n.natAbs<2 ^ 1000)/\ps.length<=200/\∀ H',Same H H'->Q (.str (iu (bG " ") ((c::(bx ps).flatMap bI).map sI))) H'
theorem Sh:∀ bs:List WN.Box,(bs.flatMap bI).length=3*bs.length
 | []=>rfl
 | b::bs=>by rw [zq,cV,Sh bs,dH];show 3+_=_;lia
theorem ok'43 (T:Tx K mg A):cB P w K mg base CX0 3 A.abR A.xK Q11 (an7 A):=by
 k_dat (T.F'43.ok,nU,s) "a"
 ·obtain ⟨p,dx,l,r,k,c,ps,rfl,_⟩:=h
  rfl
 ·obtain ⟨p,dx,l,r,k,c,ps,rfl,hW,hb,hn,q⟩:=h
  refine ⟨_,(ao (psS 1 nU.nd (dR (aj (pf 0) au)))
   (ao (rR jB rfl (mH (pf 0)) (pgN 2 nU.nd) (aC (bC (jG mL Qj Qk ZP (pv 1) (aj (pv 2) au)))))
   (aC (bQ (aF (Ol T) tb_g% T.ZQ aL (aj (pv 1) au)))))),?_⟩
  refine ⟨_,rfl,rdF hW.o T.dM T.oE (jJ ..) ⟨by show 1<=sizeLine;decide,fun L hL=>?_⟩⟩
  have s1:=Same.new (o:=.lst [.int c]) hL
  have f1:(upd H L (.lst [.int c])) L=some (.lst ((c::(bx (ps.take 0)).flatMap bI).map V.int)):=ak
  generalize upd H L (.lst [.int c])=H1 at s1 f1 ⊢
  have W1:=hW.same s1
  refine ⟨_,rfl,rdF W1.o T.dM T.Cg (yc ..) ⟨l,rfl,⟨_,.inl (.inl W1.b.l)⟩,wV (K:=K) (a:=l) (xs:=ps.map fun p=>V.ref p.1) (fun i σ G=>∃ y:Option V,σ=[some (.ref p),some (.ref L),y]/\G L=some (.lst ((c::(bx (ps.take i)).flatMap bI).map V.int))/\Same H G) ⟨none,rfl,f1,s1⟩ (fun i σ G _ ⟨_,_,_,s⟩=>.inl (.inl (s _ _ hW.b.l))) ?_ ?_⟩⟩
  ·rintro i v σ G hi ⟨y,rfl,gL,sG⟩
   obtain ⟨b,hi',rfl⟩:=Ie hi
   have ht:=sG _ _ (hW.b.t b (List.mem_of_getElem? hi'))
   have li:i<ps.length:=(gH.mp hi').1
   have ll:(c::(bx (ps.take i)).flatMap bI).length<=900:=by
    rw [dH,Sh,je,jy];lia
   refine ⟨_,rfl,.inl ⟨rfl,_,.inl (.inl gL)⟩,_,rfl,L,b.1,_,[.int b.2.f,.int b.2.l,.int b.2.s],rfl,rfl,gL,.inl (.inl ht),?_,?_⟩
   ·have:=bB (n:=903) (by decide)
    rw [aZ];show _+3<=_;lia
   refine ⟨_,rfl,?_,fun b o e=>?_⟩
   ·rw [ak,nZ,hi']
    unfold bx
    rw [cC,Ox,<- Oz,cC];rfl
   ·rw [aA (aq e hL)];exact sG b o e
  ·rintro σ G ⟨y,rfl,gL,sG⟩
   rw [aZ,qu] at gL
   exact ⟨_,rfl,L,_,rfl,gL,hb,by rw [dH,Sh,je];lia,fun H' s'=>q _ (sG.trans s')⟩
open MK
noncomputable def rN (f:Rs):List Int:=[f.tt,f.ov,f.un,f.tn]++(f.mi.toList++f.ma.toList)
noncomputable def rW (ls:RG.Ls):List Str:=ls.flatMap fun l=>bG "/" :: l.map sI
/-- the least and the most are known where something came -/
noncomputable def Km (f:Rs):Prop:=(f.tt=0/\f.mi=none/\f.ma=none)\/(f.tt≠0/\∃ a b,f.mi=some a/\f.ma=some b)
theorem aj9 {l:List Int} (h:ls[i]? = some l):rW (ls.take (i+1))=rW (ls.take i)++(bG "/" :: l.map sI):=by
 unfold rW;rw [nZ,h,Ox];simp
theorem share1 (C:α->Prop) {G:α->Prop} {R:Prop} (f:(∀ x,C x->G x)->R) (k:∀ x,C x->G x):R:=f k
theorem Sq:∀ {ls:RG.Ls},(∀ l∈ls,l.length<=64)->(rW ls).length<=65*ls.length
 | [],_=>bh _
 | l::ls,h=>by
  have h1:=h l eN
  have h2:=Sq fun k m=>h k (fB l m)
  have e:rW (l::ls)=(bG "/" :: l.map sI)++rW ls:=by unfold rW;rw [zq]
  rw [e,cV,dH,aZ,dH]
  lia
theorem sI_20 {n:Int} (h:n.natAbs<10 ^ 20):(sI n).length<=21:=by
 have cl:(Dec.dg n.natAbs).length<=20:=Dec.Fy 20 (by decide) h
 unfold sI
 by_cases z:n<0
 ·rw [show n = -(n.natAbs:Int) by lia,Dec.RD tb_g%,Dec.Fz]
  show (Dec.dg n.natAbs).length+1<=21
  lia
 ·rw [show n=(n.natAbs:Int) by lia,Dec.BJ,Dec.Fz]
  lia
theorem Vw:∀ {ns:List Int},(∀ n∈ns,n.natAbs<10 ^ 20)->((ns.map sI).map (·.length)).sum<=21*ns.length
 | [],_=>bh _
 | n::ns,h=>by
  have h1:=sI_20 (h n eN)
  have h2:=Vw fun k m=>h k (fB n m)
  rw [dW,dW,jr,dH]
  lia
theorem Z7:∀ {ls:RG.Ls},(∀ l∈ls,l.length<=64)->(∀ l∈ls,∀ n∈l,n.natAbs<10 ^ 20)->((rW ls).map (·.length)).sum<=1400*ls.length
 | [],_,_=>bh _
 | l::ls,h,g=>by
  have h1:=h l eN
  have h2:=Z7 (fun k m=>h k (fB l m)) fun k m=>g k (fB l m)
  have h3:=Vw (g l eN)
  have h4:(bG "/").length=1:=by decide +kernel
  have e:rW (l::ls)=(bG "/" :: l.map sI)++rW ls:=by unfold rW;rw [zq]
  rw [e,cC,Ds,dW,jr,dH,h4]
  lia
theorem aiy (h:n<=9000):n<sizeLine:=Jr h (by decide)
theorem lD (sep:Str):∀ (ts:List Str),(iu sep ts).length<=(ts.map (·.length)).sum+ts.length*sep.length:=by
 intro ts
 show (QF sep ts).length<=_
 have key:∀ (us:List Str) (acc:Array Nat),(us.foldl (fun acc p=>acc++sep.cps++p.cps) acc).size=acc.size+(us.map (·.length)).sum+us.length*sep.length:=by
  intro us
  induction us with
  | nil=>intro acc;simp
  | cons u us ih =>
   intro acc
   rw [OD,ih,XM,XM,dW,jr,dH,wK]
   show acc.size+sep.length+u.length+_+_=_
   lia
 unfold QF
 show Array.size _<=_
 rw [key]
 cases ts with
 | nil=>exact bh _
 | cons t ts =>
  show t.length+_+_<=_
  rw [dW,jr,dH,wK]
  show t.length+(ts.map (·.length)).sum+ts.length*sep.length<=_
  lia
noncomputable def an8 (A:Ad):Sp:=fun vs H Q _=>∃ (p:Addr) (f:Rs),vs=[.ref p]/\RnX A H p f/\Km f/\(∀ n∈rN f,n.natAbs<2 ^ 1000)/\(∀ l∈f.ls,∀ n∈l,n.natAbs<10 ^ 20)/\f.ls.length<=60/\(∀ l∈f.ls,l.length<=64)/\∀ H',Same H H'->Q (.str (iu (bG " ") (iu (bG " ") ((rN f).map sI)::rW f.ls))) H'
theorem ak7 (T:Tx K mg A):cB P w K mg base CX0 3 A.abS A.yZ Q11 (an8 A):=by
 k_dat (T.F'44.ok,lF,s) "a"
 ·obtain ⟨p,f,rfl,_⟩:=h
  rfl
 ·obtain ⟨p,f,rfl,hR,km,hb,hl,h60,h64,q⟩:=h
  refine ⟨_,(ao (psS 1 lF.nd (dR (aj (pf 0) (aj (pf 0) (aj (pf 0) (aj (pf 0) au))))))
   (ao (dO (aQ pC (pf 0) aB (aY _)) (aC (bC (jG mL Qj Qk Fo (pv 1) (aj (dR (aj (pf 0) (aj (pf 0) au))) au)))) cG)
   (ao (psS 2 lF.nd (dR (aj (aF (Ol T) tb_g% T.ZQ aL (aj (pv 1) au)) au)))
   (ao (rR jB rfl (mH (pf 0)) (pgN 3 lF.nd) (ao (bC (jG mL sY sZ d8 (pv 2) (aj gF au)))
   (aC (bC (jG mL Qj Qk Fo (pv 2) (aj (Rw (cl:=[]) (N:=Q10) (caps:=[]) (tt:=_) (te:=_) rfl (by with_unfolding_all rfl) tb_g% rfl tb_g% trivial (xr (by with_unfolding_all rfl)) tb_g% rfl rfl rfl (gQ.at (k:=1) (show gQ _ _ _ _ 1 [] from trivial)) (mH (pv 3)) (fun _ _ _ _=>HJ) (fun _ _ _ _=>(aF (ak6 T) (by exact hr.mono (by decide)) T.F'41 aL (aj (pv 0) au)))) au))))))
   (aC (bQ (jG JB Ej Ql RK gF (aj (pv 2) au)))))))),?_⟩
  refine ⟨_,rfl,rdF hR.o T.bT T.za (xZ ..) ⟨_,rfl,rdF hR.o T.bT T.BW (Ia ..) ⟨_,rfl,rdF hR.o T.bT T.BX (CN ..) ⟨_,rfl,rdF hR.o T.bT T.qY (m7 ..) ⟨by show 4<=sizeLine;decide,fun L hL=>?_⟩⟩⟩⟩⟩
  have s1:=Same.new (o:=.lst [.int f.tt,.int f.ov,.int f.un,.int f.tn]) hL
  have f1:(upd H L (.lst [.int f.tt,.int f.ov,.int f.un,.int f.tn])) L=some (.lst [.int f.tt,.int f.ov,.int f.un,.int f.tn]):=ak
  generalize upd H L (.lst [.int f.tt,.int f.ov,.int f.un,.int f.tn])=H1 at s1 f1 ⊢
  have R1:=hR.same s1
  refine ⟨_,rfl,rdF R1.o T.bT T.za (xZ ..) ⟨rfl,_,rfl,?_⟩⟩
  apply share1 (fun G:Hp=>G L=some (.lst ((rN f).map V.int))/\Same H G)
  ·intro key
   rcases km with ⟨k0,k1,k2⟩ | ⟨k0,a,b,k1,k2⟩
   ·refine pD (by rw [k0]) ?_
    exact key H1 ⟨by rw [f1];unfold rN;rw [k1,k2];rfl,s1⟩
   ·rw [decide_eq_false (fun y=>k0 (V.int.inj y))]
    refine oG ⟨_,rfl,.inl ⟨rfl,_,.inl (.inl f1)⟩,_,rfl,rdF R1.o T.bT T.BZ (CP ..) ⟨_,rfl,rdF R1.o T.bT T.Ca (Ib ..) ⟨by show 2<=sizeLine;decide,fun M hM=>?_⟩⟩⟩
    have sM:=Same.new (o:=.lst [oV f.mi,oV f.ma]) hM
    refine ⟨L,M,_,_,rfl,rfl,sM _ _ f1,ak,by show 4+2<=sizeLine;decide,?_⟩
    have g2:(upd (upd H1 M (.lst [oV f.mi,oV f.ma])) L (.lst ([.int f.tt,.int f.ov,.int f.un,.int f.tn]++[oV f.mi,oV f.ma]))) L=some (.lst ((rN f).map V.int)):=by rw [ak];unfold rN;rw [k1,k2];rfl
    have s2:Same H (upd (upd H1 M (.lst [oV f.mi,oV f.ma])) L (.lst ([.int f.tt,.int f.ov,.int f.un,.int f.tn]++[oV f.mi,oV f.ma]))):=fun b o e=>by rw [aA (aq e hL)];exact (s1.trans sM) b o e
    generalize upd (upd H1 M (.lst [oV f.mi,oV f.ma])) L (.lst ([.int f.tt,.int f.ov,.int f.un,.int f.tn]++[oV f.mi,oV f.ma]))=G2 at g2 s2 ⊢
    exact key G2 ⟨g2,s2⟩
  intro G ⟨gL,sG⟩
  have n6:(rN f).length<=6:=by
   unfold rN
   cases f.mi <;> cases f.ma <;> simp
  refine ⟨_,rfl,L,rN f,rfl,gL,hb,by lia,fun G1 t1=>⟨by show 1<=sizeLine;decide,fun W hW=>?_⟩⟩
  have e0:(iu (bG " ") ((rN f).map sI)).length<=3000:=by
   have h1:=lD (bG " ") ((rN f).map sI)
   have h2:=Gd hb
   have h3:(bG " ").length=1:=by decide +kernel
   rw [aZ,h3] at h1
   lia
  generalize iu (bG " ") ((rN f).map sI)=t0 at q e0 ⊢
  have s2:=(sG.trans t1).trans (Same.new (o:=.lst [.str t0]) hW)
  have f2:(upd G1 W (.lst [.str t0])) W=some (.lst ((t0::rW (f.ls.take 0)).map V.str)):=ak
  have vW:H W=none:=(sG.trans t1).free hW
  generalize upd G1 W (.lst [.str t0])=G2 at s2 f2 ⊢
  have R2:=hR.same s2
  refine ⟨_,rfl,rdF R2.o T.bT T.zc (tW ..) ⟨f.a,rfl,⟨_,.inl (.inl R2.l.o)⟩,wV (K:=K) (a:=f.a) (xs:=f.bs.map V.ref) (fun i σ G=>∃ y:Option V,σ=[some (.ref p),some (.ref L),some (.ref W),y]/\G W=some (.lst ((t0::rW (f.ls.take i)).map V.str))/\Same H G) ⟨none,rfl,f2,s2⟩ (fun i σ G _ ⟨_,_,_,s⟩=>.inl (.inl (s _ _ hR.l.o))) ?_ ?_⟩⟩
  ·rintro i v σ G hi ⟨y,rfl,gW,sG⟩
   rw [gZ] at hi
   cases eb:f.bs[i]? with
   | none=>rw [eb] at hi;cases hi
   | some b =>
    rw [eb] at hi
    obtain rfl:=bW hi
    have li:i<f.ls.length:=by rw [<- hR.l.n];exact (gH.mp eb).1
    have el:=fY li
    have hb':=hR.l.e i b _ eb el
    have ml:=Dq li
    generalize f.ls[i]=l at el hb' ml
    have tl:=Sq (ls:=f.ls.take i) fun k m=>h64 k (List.mem_of_mem_take m)
    rw [jy] at tl
    have l64:=h64 l ml
    refine ⟨_,rfl,.inl ⟨rfl,_,.inl (.inl gW)⟩,W,_,_,rfl,rfl,gW,aiy (by rw [aZ,dH];lia),?_⟩
    have g3:(upd G W (.lst ((t0::rW (f.ls.take i)).map V.str++[.str (bG "/")]))) W=some (.lst ((t0::rW (f.ls.take i)++[bG "/"]).map V.str)):=by rw [ak,cC];rfl
    have s3:Same H (upd G W (.lst ((t0::rW (f.ls.take i)).map V.str++[.str (bG "/")]))):=fun b o e=>by rw [aA (aq e vW)];exact sG b o e
    generalize upd G W (.lst ((t0::rW (f.ls.take i)).map V.str++[.str (bG "/")]))=G3 at g3 s3 ⊢
    refine ⟨_,rfl,.inl ⟨rfl,_,.inl (.inl g3)⟩,_,rfl,b,rfl,⟨_,.inl (.inl (s3 _ _ hb'))⟩,fun D hD=>?_⟩
    refine Fv (K:=K) (a:=b) (xs:=l.map V.int) (fun j ys J=>ys=(l.take j).map (fun n=>V.str (sI n))/\J D=some (.lst ys)/\Same G3 J) ⟨rfl,ak,Same.new hD⟩ ?_ ?_ ?_ ?_
    ·rintro j ys J hj ⟨rfl,gD,sJ⟩
     refine ⟨.inl (.inl (sJ _ _ (s3 _ _ hb'))),gD,bB ?_⟩
     rw [aZ,jy];lia
    ·rintro j ys J x hx ⟨rfl,gD,sJ⟩
     obtain ⟨n,hj,rfl⟩:=int_at hx
     refine ⟨_,rfl,n,rfl,uz (hl l ml n (List.mem_of_getElem? hj)) (by decide),fun J1 t1=>?_⟩
     refine ⟨t1 _ _ gD,?_,ak,fun b o e=>?_⟩
     ·rw [nZ,hj,cC];rfl
     ·rw [aA (aq e hD)];exact t1 _ _ (sJ b o e)
    ·rintro ys J ⟨rfl,gD,sJ⟩
     rw [aZ,qu] at gD
     refine ⟨W,D,_,_,rfl,rfl,sJ _ _ g3,gD,ou (aiy (by rw [aZ,cV,dH,aZ];show (rW (f.ls.take i)).length+1+1+l.length<=9000;lia)),?_⟩
     refine ⟨_,rfl,?_,fun b o e=>?_⟩
     ·rw [ak,aj9 el]
      simp only [cC,dW,n8,Oz,jx,Dt,zu]
      rfl
     ·rw [aA (aq e vW)];exact sJ _ _ (s3 b o e)
    ·exact fun σ H R R' hr ⟨v,e,n,en,hn,q⟩=>⟨v,e,n,en,hn,fun H1 s1=>hr _ _ (q H1 s1)⟩
  ·rintro σ G ⟨y,rfl,gW,sG⟩
   rw [aZ,hR.l.n,qu] at gW
   have h1:=Z7 h64 hl
   have h2:=Sq h64
   refine ⟨rfl,_,rfl,bG " ",W,t0::rW f.ls,rfl,rfl,.inl (.inl gW),by decide +kernel,?_,q _ sG⟩
   rw [dW,jr,dH]
   lia
open MK
noncomputable def vR (c:Tab):Tab:=c.mergeSort fun a b=>decide (a.1<=b.1)
theorem uc (c:Tab):(vR c).Perm c:=Ov _ _
theorem akb (c:Tab):(vR c).Pairwise fun a b:Int × Int=>a.1<=b.1:=by
 have:=VN (le:=fun a b:Int × Int=>decide (a.1<=b.1)) (fun a b c h1 h2=>by simp only [decide_eq_true_eq] at *; lia) (fun a b=>by simp only [Xw,decide_eq_true_eq];lia) c
 exact this.imp fun h=>of_decide_eq_true h
noncomputable def pN (c:Tab):List Int:=c.flatMap fun p=>[p.1,p.2]
theorem Ss:∀ c:Tab,(pN c).length=2*c.length
 | []=>rfl
 | p::c=>by
  have e:pN (p::c)=[p.1,p.2]++pN c:=by unfold pN;rw [zq]
  rw [e,cV,Ss c,dH (a:=p)]
  show 2+2*c.length=2*(c.length+1)
  lia
theorem akc {c:Tab} {p:Int × Int} (h:c[i]? = some p):pN (c.take (i+1))=pN (c.take i)++[p.1,p.2]:=by
 unfold pN;rw [nZ,h,Ox];simp
noncomputable def fN (f:Fq):List Int:=[f.t,f.l]++pN (vR f.c)
noncomputable def an9 (A:Ad):Sp:=fun vs H Q _=>∃ (f:Fq) (room:Nat),vs=[.ref f.p]/\sX A H room f/\(keys f.c).Nodup/\f.c.length<=63/\(∀ n∈fN f,n.natAbs<2 ^ 1000)/\∀ H',Same H H'->Q (.str (iu (bG " ") ((fN f).map sI))) H'
theorem ak8 (T:Tx K mg A):cB P w K mg base CX0 3 A.abT A.tR Q11 (an9 A):=by
 k_dat (T.F'45.ok,lG,s) "a"
 ·obtain ⟨f,room,rfl,_⟩:=h
  rfl
 ·obtain ⟨f,room,rfl,hF,nd,ln,hb,q⟩:=h
  refine ⟨_,(ao (psS 1 lG.nd (dR (aj (pf 0) (aj (pf 0) au))))
   (ao (rR jB rfl (mH (bO (lB rfl) (by rfl) T.pZ Ep (aj (pf 0) au))) (pgN 2 lG.nd) (aC (bC (jG mL Qj Qk Fo (pv 1) (aj (dR (aj (pv 2) (aj (dw (ixG (cN hr)) (pf 0) (pv 2) (fun _ _=>rfl)) au))) au)))))
   (aC (bQ (aF (Ol T) tb_g% T.ZQ aL (aj (pv 1) au)))))),?_⟩
  refine ⟨_,rfl,rdF hF.o T.fK T.Cp (Df ..) ⟨_,rfl,rdF hF.o T.fK T.Cq (Ig ..) ⟨by show 2<=sizeLine;decide,fun L hL=>?_⟩⟩⟩
  have s1:=Same.new (o:=.lst [.int f.t,.int f.l]) hL
  have f1:(upd H L (.lst [.int f.t,.int f.l])) L=some (.lst (([f.t,f.l]++pN ((vR f.c).take 0)).map V.int)):=ak
  generalize upd H L (.lst [.int f.t,.int f.l])=H1 at s1 f1 ⊢
  have F1:=hF.same s1
  have kl:(keys f.c).length=f.c.length:=aZ _
  refine ⟨_,rfl,rdF F1.o T.fK T.Cr (tY ..) (.inl ⟨f.d,_,keys f.c,rfl,.inl F1.d,ag8 _,by lia,fun l ns' hl pm so=>?_⟩)⟩
  obtain rfl:ns'=keys (vR f.c):=mq (pm.trans ((uc f.c).map _).symm) so (List.pairwise_map.mpr (akb f.c))
  have s2:=s1.trans (Same.new (o:=.lst ((keys (vR f.c)).map V.int)) hl)
  have g2:=(Same.new (o:=.lst ((keys (vR f.c)).map V.int)) hl) _ _ f1
  have k2:(upd H1 l (.lst ((keys (vR f.c)).map V.int))) l=some (.lst ((keys (vR f.c)).map V.int)):=ak
  have nl:l≠L:=aU (aq f1 hl)
  generalize upd H1 l (.lst ((keys (vR f.c)).map V.int))=H2 at s2 g2 k2 ⊢
  have pl:=(uc f.c).length_eq
  refine ⟨l,rfl,⟨_,.inl (.inl k2)⟩,wV (K:=K) (a:=l) (xs:=(keys (vR f.c)).map V.int) (fun i σ G=>∃ y:Option V,σ=[some (.ref f.p),some (.ref L),y]/\G L=some (.lst (([f.t,f.l]++pN ((vR f.c).take i)).map V.int))/\Same H G/\G l=some (.lst ((keys (vR f.c)).map V.int))) ⟨none,rfl,g2,s2,k2⟩ (fun i σ G _ ⟨_,_,_,_,k⟩=>.inl (.inl k)) ?_ ?_⟩
  ·rintro i v σ G hi ⟨y,rfl,gL,sG,kG⟩
   obtain ⟨k,hk,rfl⟩:=int_at hi
   obtain ⟨z,hz,rfl⟩:∃ z,(vR f.c)[i]? = some z/\z.1=k:=by
    unfold keys at hk
    rw [gZ] at hk
    cases e:(vR f.c)[i]? with
    | none=>rw [e] at hk;cases hk
    | some z=>rw [e] at hk;exact ⟨z,rfl,bW hk⟩
   have mz:z∈f.c:=(uc f.c).mem_iff.mp (List.mem_of_getElem? hz)
   have FG:=hF.same sG
   have li:i<(vR f.c).length:=(gH.mp hz).1
   refine ⟨_,rfl,.inl ⟨rfl,_,.inl (.inl gL)⟩,_,rfl,_,rfl,rdF FG.o T.fK T.Cr (tY ..) ⟨_,rfl,rdIxD (.inl FG.d) (aha (Uk nd mz)) ⟨by show 2<=sizeLine;decide,fun M hM=>?_⟩⟩⟩
   have sM:=Same.new (o:=.lst [.int z.1,.int z.2]) hM
   refine ⟨L,M,_,_,rfl,rfl,sM _ _ gL,ak,ou (bB (by rw [aZ,cV,Ss,jy];show 2+_+2<=1000;lia)),?_⟩
   refine ⟨_,rfl,?_,fun b o e=>?_,?_⟩
   ·rw [ak,akc hz,<- jx,cC (l₂:=[z.1,z.2])];rfl
   ·rw [aA (aq e hL)];exact sM _ _ (sG b o e)
   ·rw [aA nl];exact sM _ _ kG
  ·rintro σ G ⟨y,rfl,gL,sG,_⟩
   rw [aZ,show (keys (vR f.c)).length=(vR f.c).length from aZ _,qu] at gL
   exact ⟨_,rfl,L,fN f,rfl,gL,hb,by unfold fN;rw [cV,Ss];show 2+_<=900;lia,fun H' s'=>q _ (sG.trans s')⟩
open MK
noncomputable def cL (s:Str):List Nat:=s.cps.toList
noncomputable abbrev sp1:Str:=bG " "
theorem aiz {a b:Str} (h:cL a=cL b):a=b:=by
 cases a;cases b
 exact congrArg Str.mk (Qs.mp h)
theorem aoa (a b:Str):cL (a++b)=cL a++cL b:=Qq
noncomputable abbrev fm (ts:List Str):List Nat:=ts.flatMap fun u=>cL sp1++cL u
theorem Dj (t:Str) (ts:List Str):cL (iu sp1 (t::ts))=cL t++fm ts:=by
 have key:∀ (us:List Str) (acc:Array Nat),(us.foldl (fun acc p=>acc++sp1.cps++p.cps) acc).toList=acc.toList++fm us:=by
  intro us
  induction us with
  | nil=>intro acc;simp
  | cons u us ih =>
   intro acc
   rw [OD,ih,Qq,Qq,jx,jx]
   show _=_++((u::us).flatMap _)
   rw [zq,jx]
   rfl
 exact key ts t.cps
noncomputable def ln (h:Str) (ts:List Str):Str:=iu sp1 (h::ts)
theorem rF {a b:Str} (e:cL a=cL b++cL sp1) (n:ts≠[]):a++iu sp1 ts=ln b ts:=by
 obtain ⟨t,us,rfl⟩:=VJ n
 apply aiz
 unfold ln
 rw [aoa,Dj,Dj,e,fm,fm,zq]
 simp only [jx]
theorem aiA (n:ts≠[]) (us:List Str):iu sp1 (iu sp1 ts::us)=iu sp1 (ts++us):=by
 obtain ⟨t,vs,rfl⟩:=VJ n
 apply aiz
 rw [Dj,Dj,Oz,Dj,fm,fm,fm,Ox,jx]
theorem Sv:sp1.length=1:=by decide +kernel
theorem xu (hb:∀ n∈ns,n.natAbs<2 ^ 1000):(iu sp1 (ns.map sI)).length<=402*ns.length:=by
 have h1:=lD sp1 (ns.map sI)
 have h2:=Gd hb
 rw [aZ,Sv] at h1
 lia
theorem yg {h:Str} (hh:h.length<=16) (hs:(ts.map (·.length)).sum+ts.length<=k):(ln h ts).length<=17+k:=by
 have h1:=lD sp1 (h::ts)
 rw [Sv,dW,jr,dH] at h1
 unfold ln
 lia
noncomputable def rT (f:Rs):List Str:=(rN f).map sI++rW f.ls
noncomputable def nW (x:KS):List Str:=[ln (bG "keep") (([x.room,x.reach,x.span]:List Int).map sI),ln (bG "came") ((fN x.cm).map sI),ln (bG "went") ((fN x.wn).map sI),ln (bG "up") (rT x.up.x),ln (bG "down") (rT x.dn.x),
 ln (bG "window") ((x.wi.c::(bx x.wi.ps).flatMap bI).map sI),ln (bG "seen") (([x.di.n,x.di.v]++srt (My.up x.di.v x.di.C)).map sI),ln (bG "sums") ((L4 x.ba.q).map sI)]
open MK
noncomputable abbrev Th (z:Int):Prop:=0<=z/\z<1152921504606846976
theorem Th.big {z:Int} (h:Th z):z.natAbs<2 ^ 1000:=uz (show z.natAbs<1152921504606846976 by have:=h.1;have:=h.2;lia) (by decide)
theorem Th.mid {z:Int} (h:Th z):z.natAbs<10 ^ 20:=uz (show z.natAbs<1152921504606846976 by have:=h.1;have:=h.2;lia) (by decide)
structure Gu (f:Rs) (n:Nat):Prop where
 km:Km f
 mi:∀ z,f.mi=some z->Th z
 ma:∀ z,f.ma=some z->Th z
 ls:∀ l∈f.ls,∀ z∈l,Th z
 t0:0<=f.tn
 tn:f.tn<=60*n
structure Wb (c:Int) (n:Nat) (bs:List WN.Box):Prop where
 b:∀ b∈bs,0<=b.f/\b.f<=c/\0<=b.l/\b.l<=c/\0<=b.s
 s:WN.sum bs<=1000000000000*n
structure Nb (x:KS) (n:Nat):Prop where
 rc:Th x.reach
 sn:Th x.span
 cm:∀ k∈keys x.cm.c,Th k
 wn:∀ k∈keys x.wn.c,Th k
 up:Gu x.up.x n
 dn:Gu x.dn.x n
 c0:0<=x.wi.c
 c1:x.wi.c<=1000000000000*n
 wi:Wb x.wi.c n (bx x.wi.ps)
 dn0:0<=x.di.n
 dn1:x.di.n<=n
 dv:x.di.v<=61
 dc:∀ z∈x.di.C,Th z
 ba:∀ z∈L4 x.ba.q,z.natAbs<=n*2 ^ 250
theorem Ge {c room:Int}:∀ (os:List WN.Box) (S:Int) (b:WN.Box),(∀ o∈b::os,0<=o.f/\o.f<=c/\0<=o.l/\o.l<=c/\0<=o.s)->∀ o∈WN.settle room S b os,0<=o.f/\o.f<=c/\0<=o.l/\o.l<=c/\0<=o.s
 | [],S,b,h=>h
 | o::os,S,b,h=>by
  rw [WN.iy]
  have h1:=h b eN
  have h2:=h o (fB _ eN)
  split
  ·refine Ge os _ _ fun p m=>?_
   rcases cP.mp m with rfl | m
   ·exact ⟨h2.1,h2.2.1,h1.2.2.1,h1.2.2.2.1,by show 0<=b.s+o.s;lia⟩
   ·exact h p (fB _ (fB _ m))
  ·intro p m
   rcases cP.mp m with rfl | m
   ·exact h1
   ·exact Ge os _ _ (fun q m=>h q (fB _ m)) p m
theorem sum_filter {p:WN.Box->Bool}:∀ {bs:List WN.Box},(∀ b∈bs,0<=b.s)->WN.sum (bs.filter p)<=WN.sum bs
 | [],_=>dY _
 | b::bs,h=>by
  have h1:=h b eN
  have h2:=sum_filter (p:=p) fun o m=>h o (fB b m)
  rw [ug]
  split
  ·rw [WN.sum_cons,WN.sum_cons];lia
  ·rw [WN.sum_cons];lia
theorem abp (bs:List WN.Box):WN.sum bs.reverse=WN.sum bs:=by
 unfold WN.sum
 rw [uh]
 exact List.sum_reverse_int _
theorem Wb.settled {c:Int} {bs:List WN.Box} (h:Wb c n bs) (room e:Int):Wb c n (cZ room e bs):=by
 have hf:∀ b∈(bs.filter fun b=>decide (e<b.l)).reverse,0<=b.f/\b.f<=c/\0<=b.l/\b.l<=c/\0<=b.s:=fun b m=>h.b b ((rH.mp (vY.mp m)).1)
 have s1:=sum_filter (p:=fun b=>decide (e<b.l)) (bs:=bs) fun b m=>(h.b b m).2.2.2.2
 have s2:=h.s
 unfold cZ
 rw [<- abp] at s1
 generalize (bs.filter fun b=>decide (e<b.l)).reverse=os at hf s1
 refine ⟨fun b m=>?_,by rw [abp,WN.UG];lia⟩
 rw [vY] at m
 cases os with
 | nil=>exact nomatch m
 | cons o os=>exact Ge os _ _ hf b m
theorem Wb.mono {c d:Int} {bs:List WN.Box} (h:Wb c n bs) (e:c<=d):Wb d (n+1) bs:=⟨fun b m=>by have:=h.b b m;lia,by have:=h.s;lia⟩
theorem aiB {room:Int} {tn ov un:Int} {out:RG.Ls} {tn' ov' un':Int} (a:RG.Stl room h tn ov un ls out tn' ov' un'):tn'<=tn+out.length:=by
 induction a with
 | nil=>exact Int.le_add_of_nonneg_right tb_g%
 | keep _ _ ih=>rw [dH];lia
 | turn _ _ ih=>rw [dH];lia
theorem ak9 {z:Int} (h:∀ z,a=some z->Th z) (ht:Th t) (e:lo2 a (some t)=some z):Th z:=by
 cases a with
 | none=>cases e;exact ht
 | some y =>
  have:=h y rfl
  obtain rfl:=bW e
  constructor <;> lia
theorem ala {z:Int} (h:∀ z,a=some z->Th z) (ht:Th t) (e:hi2 a (some t)=some z):Th z:=by
 cases a with
 | none=>cases e;exact ht
 | some y =>
  have:=h y rfl
  obtain rfl:=bW e
  constructor <;> lia
theorem Gu.add {room':Nat} {f:Rs} {w:Int} (h:Gu f n) (k:Gr room f n) (k':Gr room' g (n+1)) (few:n+1<=63) (s:RS th w f g) (ht:Th th) (w1:1<=w):Gu g (n+1):=by
 have gl:=jf k'.g k'.t few
 have v0:=k.g.vl
 refine ⟨.inr ⟨by rw [s.tt];lia,?_⟩,fun z e=>ak9 h.mi ht (s.mi ▸ e),fun z e=>ala h.ma ht (s.ma ▸ e),s.st.mem (RG.acN th ht _ _ h.ls),by have:=s.st.mono.1;have:=h.t0;lia,by have:=aiB s.st;have:=h.tn;have:=gl.1;lia⟩
 rw [s.mi,s.ma]
 cases f.mi <;> cases f.ma <;> exact ⟨_,_,rfl,rfl⟩
theorem Gu.next {f:Rs} (h:Gu f n):Gu f (n+1):=⟨h.km,h.mi,h.ma,h.ls,h.t0,by have:=h.tn;lia⟩
theorem alb {w:Int} {g:Fq} (s:FS room th w f g) (h:∀ k∈keys f.c,Th k) (ht:Th th):∀ k∈keys g.c,Th k:=by
 obtain ⟨cut,a,_⟩:=s
 intro k m
 have m2:k∈keys (put f.c th (low f.c th+w)):=by
  unfold gj at a
  split at a
  ·rw [a.2] at m;exact m
  ·rw [a.2] at m;exact uH m
 rcases (Bq ..).mp m2 with rfl | m3
 ·exact ht
 ·exact h k m3
theorem pw_bd {w:Int} (ht:Th th) (w2:w.natAbs<=1000000000000):∀ z∈L4 (pwQ th w),z.natAbs<=2 ^ 250:=by
 have t1:th.natAbs<=1152921504606846976:=by lia
 have key:∀ {a b c d:Nat},a<=c->b<=d->a*b<=c*d:=fun h1 h2=>aeB h1 h2
 intro z m
 have m:z=w\/z=w*th\/z=w*th*th\/z=w*th*th*th:=by
  have:z∈[w,w*th,w*th*th,w*th*th*th]:=m
  simpa using this
 have a1:=key w2 t1
 have a2:=key a1 t1
 have a3:=key a2 t1
 rcases m with rfl | rfl | rfl | rfl
 ·exact gM w2 (by decide)
 ·rw [En];exact gM a1 (by decide)
 ·rw [En,En];exact gM a2 (by decide)
 ·rw [En,En,En];exact gM a3 (by decide)
theorem alc {q p:Q4} (h:∀ z∈L4 q,z.natAbs<=n*2 ^ 250) (g:∀ z∈L4 p,z.natAbs<=2 ^ 250):∀ z∈L4 (addQ q p),z.natAbs<=(n+1)*2 ^ 250:=by
 intro z m
 have m:z=q.a+p.a\/z=q.b+p.b\/z=q.c+p.c\/z=q.d+p.d:=by
  have:z∈[q.a+p.a,q.b+p.b,q.c+p.c,q.d+p.d]:=m
  simpa using this
 have e:∀ {a b:Int},a∈L4 q->b∈L4 p->(a+b).natAbs<=(n+1)*2 ^ 250:=fun {a b} m1 m2=>by
  have h1:=h a m1
  have h2:=g b m2
  rw [wK]
  generalize 2 ^ 250=B at h1 h2 ⊢
  generalize n*B=C at h1 ⊢
  lia
 rcases m with rfl | rfl | rfl | rfl <;> exact e (by simp [L4]) (by simp [L4])
theorem aiC {q:Q4} (h:∀ z∈L4 q,z.natAbs<=n*2 ^ 250):∀ z∈L4 q,z.natAbs<=(n+1)*2 ^ 250:=fun z m=>gM (h z m) (wH _ (rO n))
theorem Nb.row (h:Nb x n) (k:Kh x n) (k':Kh x' (n+1)) (ok:r.ok) (s:SR r x x'):Nb x' (n+1):=by
 have ht:Th r.th:=⟨ok.t0,ok.t1⟩
 have w1:=ok.w1
 have w2:=ok.w2
 have sb:=s.sb
 have c0:=h.c0
 have c1:=h.c1
 have d0:=h.dn0
 have d1:=h.dn1
 have rc:Th x'.reach:=by rw [sb.reach];exact h.rc
 have sn:Th x'.span:=by rw [sb.span];exact h.sn
 unfold SR at s
 split at s
 ·have wb:Wb x'.wi.c (n+1) (bx x'.wi.ps):=by
   rw [s.wi.2,s.wi.1]
   refine Wb.settled ⟨fun b m=>?_,?_⟩ _ _
   ·walk_at "i"
    ·have:=h.wi.b b m;lia
    ·rw [dh.mp m];exact ⟨by show 0<=x.wi.c+1;lia,dY _,by show 0<=x.wi.c+1;lia,dY _,by show 0<=r.w;lia⟩
   ·have:=h.wi.s
    rw [WN.sum_append,WN.sum_cons,WN.sum_nil]
    show _+(r.w+0)<=_
    lia
  refine ⟨rc,sn,alb s.cm h.cm ht,by rw [s.wn];exact h.wn,h.up.add k.up k'.up k'.few s.up ht w1,by rw [s.dn];exact h.dn.next,by rw [s.wi.1];lia,by rw [s.wi.1];lia,wb,by rw [s.di.1];lia,by rw [s.di.1];lia,s.di.2.2.le (by have:=k.r2;lia) h.dv,fun z m=>?_,?_⟩
  ·rw [s.di.2.1] at m
   unfold came at m
   split at m
   ·exact h.dc z m
   ·walk_at "i"
    ·exact h.dc z m
    ·rw [dh.mp m];exact ht
  ·rw [s.ba]
   split
   ·exact alc h.ba (pw_bd ht tb_g%)
   ·exact aiC h.ba
 split at s
 ·have wb:Wb x'.wi.c (n+1) (bx x'.wi.ps):=by
   rw [s.wi.2,s.wi.1]
   exact (h.wi.mono tb_g%).settled _ _
  refine ⟨rc,sn,by rw [s.cm];exact h.cm,alb s.wn h.wn ht,by rw [s.up];exact h.up.next,h.dn.add k.dn k'.dn k'.few s.dn ht w1,by rw [s.wi.1];lia,by rw [s.wi.1];lia,wb,by rw [s.di];lia,by rw [s.di];lia,by rw [s.di];exact h.dv,by rw [s.di];exact h.dc,?_⟩
  rw [s.ba]
  split
  ·exact alc h.ba (pw_bd ht tb_g%)
  ·exact aiC h.ba
 ·have wb:Wb x'.wi.c (n+1) (bx x'.wi.ps):=by
   rw [s.wi.2,s.wi.1]
   exact (h.wi.mono tb_g%).settled _ _
  exact ⟨rc,sn,by rw [s.cm];exact h.cm,by rw [s.wn];exact h.wn,by rw [s.up];exact h.up.next,by rw [s.dn];exact h.dn.next,by rw [s.wi.1];lia,by rw [s.wi.1];lia,wb,by rw [s.di];lia,by rw [s.di];lia,by rw [s.di];exact h.dv,by rw [s.di];exact h.dc,by rw [s.ba];exact aiC h.ba⟩
theorem nb0 (h1:Th reach) (h2:Th span):Nb (K0 room reach span) 0:=by
 have g0:Gu (R0 room) 0:=⟨.inl ⟨rfl,rfl,rfl⟩,fun z e=>(nomatch e),fun z e=>(nomatch e),fun _ m=>(nomatch m),dY _,dY _⟩
 exact ⟨h1,h2,fun _ m=>(nomatch m),fun _ m=>(nomatch m),g0,g0,dY _,dY _,⟨fun _ m=>(nomatch m),dY _⟩,dY _,dY _,(by decide:(0:Int)<=61),fun _ m=>(nomatch m),fun z m=>by
  have:z∈[(0:Int),0,0,0]:=m
  simp at this
  subst this
  exact dF _⟩
theorem Z8:∀ {l:List Int},(∀ v∈l,0<=v)->∀ v∈l,v<=l.sum
 | a::l,h,v,m=>by
  have h1:=h a eN
  have h2:=uI fun y m=>h y (fB a m)
  rw [jr]
  rcases cP.mp m with rfl | m
  ·lia
  ·have:=Z8 (fun y m=>h y (fB a m)) v m
   lia
theorem Gf.nums (g:Gf room f n) (few:n<=63) (h:∀ k∈keys f.c,Th k):∀ z∈fN f,z.natAbs<2 ^ 1000:=by
 obtain ⟨W,ok⟩:=g.ok
 have t:=g.t
 have l0:=ok.l0
 have v0:∀ v∈vals f.c,0<=v:=fun v m=>by
  obtain ⟨p,hp,e⟩:=kj.mp m
  have:=ok.pos p hp
  lia
 have s0:=uI v0
 have sm:=ok.sum
 have l1:f.l<=((room:Int)+1)*f.l:=by
  rw [Qo,JC]
  have:=aeZ (show (0:Int)<=room by lia) l0
  lia
 intro z m
 refine Th.big ?_
 unfold fN at m
 walk_at "i"
 ·have m:z=f.t\/z=f.l:=by simpa using m
  rcases m with rfl | rfl <;> exact ⟨by lia,by lia⟩
 ·unfold pN at m
  obtain ⟨p,mp,mz⟩:=adL.mp m
  have mc:=(uc f.c).mem_iff.mp mp
  have mz:z=p.1\/z=p.2:=by simpa using mz
  rcases mz with rfl | rfl
  ·exact h _ (V7 mc)
  ·have:=ok.pos p mc
   have:=Z8 v0 p.2 (V7 mc)
   exact ⟨by lia,by lia⟩
theorem Gu.nums {f:Rs} {m:Nat} (u:Gu f m) (fm:m<=1000) (g:Gr room f n) (few:n<=63):∀ z∈rN f,z.natAbs<2 ^ 1000:=by
 have t:=g.t
 have vl:=g.g.vl
 have gl:=jf g.g g.t few
 have o0:=g.g.ov0
 have u0:=g.g.un0
 have r2:=g.g.r2
 have tn:=u.tn
 have t0:=u.t0
 have bd:f.ov+f.un<1152921504606846976:=by
  by_cases e:f.ls=[]
  ·have:=g.g.pt
   rw [e] at this
   have h2:(f.ov+f.un)*f.r<=0:=this
   have h3:(f.ov+f.un)*2<=(f.ov+f.un)*f.r:=Qm r2 tb_g%
   lia
  ·have h1:=g.g.near e
   have h3:(f.ov+f.un)*2<=(f.ov+f.un)*f.r:=Qm r2 tb_g%
   have h4:f.tt*((f.ls.length:Int)-1)<=f.tt*60:=Qm (by have:=gl.1;lia) tb_g%
   lia
 intro z m
 refine Th.big ?_
 unfold rN at m
 walk_at "i"
 ·have m:z=f.tt\/z=f.ov\/z=f.un\/z=f.tn:=by simpa using m
  rcases m with rfl | rfl | rfl | rfl <;> exact ⟨by lia,by lia⟩
 ·walk_at "i"
  ·exact u.mi z (afv.mp m)
  ·exact u.ma z (afv.mp m)
theorem Nb.wins (h:Nb x n) (few:n<=1000):∀ z∈x.wi.c::(bx x.wi.ps).flatMap bI,z.natAbs<2 ^ 1000:=by
 have c0:=h.c0
 have c1:=h.c1
 have sm:=h.wi.s
 intro z m
 refine Th.big ?_
 rcases cP.mp m with rfl | m
 ·exact ⟨by lia,by lia⟩
 ·obtain ⟨b,mb,mz⟩:=adL.mp m
  have q:=h.wi.b b mb
  have:=Z8 (l:=(bx x.wi.ps).map (·.s)) (fun v m=>by
   obtain ⟨o,mo,rfl⟩:=kj.mp m
   exact (h.wi.b o mo).2.2.2.2) b.s (V7 mb)
  have sm:((bx x.wi.ps).map (·.s)).sum<=1000000000000*n:=sm
  have mz:z=b.f\/z=b.l\/z=b.s:=by simpa [bI] using mz
  rcases mz with rfl | rfl | rfl <;> exact ⟨by lia,by lia⟩
theorem Nb.seen {m:Nat} (h:Nb x m) (fm:m<=1000) (k:Kh x n):∀ z∈[x.di.n,x.di.v]++srt (My.up x.di.v x.di.C),z.natAbs<2 ^ 1000:=by
 have d0:=h.dn0
 have d1:=h.dn1
 have few:=k.few
 have v0:=k.dl.1
 have v1:=h.dv
 intro z m
 refine Th.big ?_
 walk_at "i"
 ·have m:z=x.di.n\/z=x.di.v:=by simpa using m
  rcases m with rfl | rfl <;> exact ⟨by lia,by lia⟩
 ·exact h.dc z (rH.mp ((Ov _ _).mem_iff.mp m)).1
theorem Nb.sums (h:Nb x n) (few:n<=1000):∀ z∈L4 x.ba.q,z.natAbs<2 ^ 1000:=fun z m=>Jr (gM (h.ba z m) (wH _ few)) (by decide)
open MK
theorem GQ {a b:Str} (h1:a.length<=16) (h2:b.length<=200000):a.length+b.length<=sizeLine:=gM (show _<=200016 by lia) (by decide)
theorem Sw {f:Rs} (hb:∀ n∈rN f,n.natAbs<2 ^ 1000) (hl:∀ l∈f.ls,∀ n∈l,n.natAbs<10 ^ 20) (h60:f.ls.length<=60) (h64:∀ l∈f.ls,l.length<=64):((rT f).map (·.length)).sum+(rT f).length<=95000:=by
 have n6:(rN f).length<=6:=by
  unfold rN
  cases f.mi <;> cases f.ma <;> simp
 have h1:=Gd hb
 have h2:=Z7 h64 hl
 have h3:=Sq h64
 unfold rT
 rw [cC,Ds,cV,aZ]
 lia
theorem ald (f:Rs):rT f≠[]:=by unfold rT rN;exact vp _ _
theorem ale (f:Rs):iu sp1 (iu sp1 ((rN f).map sI)::rW f.ls)=iu sp1 (rT f):=aiA (by unfold rN;exact vp _ _) _
theorem nY (hb:∀ n∈ns,n.natAbs<2 ^ 1000) (h:ns.length<=200):((ns.map sI).map (·.length)).sum+(ns.map sI).length<=95000:=by
 have:=Gd hb
 rw [aZ]
 lia
theorem GR (h:(ts.map (·.length)).sum+ts.length<=95000):(iu sp1 ts).length<=200000:=by
 have:=lD sp1 ts
 rw [Sv] at this
 lia
/-- the numbers of a Z4 text -/
structure Kx (x:KS):Prop where
 k:∀ z∈([x.room,x.reach,x.span]:List Int),z.natAbs<2 ^ 1000
 cm:(keys x.cm.c).Nodup
 cl:x.cm.c.length<=63
 cn:∀ z∈fN x.cm,z.natAbs<2 ^ 1000
 wn:(keys x.wn.c).Nodup
 wl:x.wn.c.length<=63
 ws:∀ z∈fN x.wn,z.natAbs<2 ^ 1000
 u1:Km x.up.x
 u2:∀ z∈rN x.up.x,z.natAbs<2 ^ 1000
 u3:∀ l∈x.up.x.ls,∀ z∈l,z.natAbs<10 ^ 20
 u4:x.up.x.ls.length<=60
 u5:∀ l∈x.up.x.ls,l.length<=64
 d1:Km x.dn.x
 d2:∀ z∈rN x.dn.x,z.natAbs<2 ^ 1000
 d3:∀ l∈x.dn.x.ls,∀ z∈l,z.natAbs<10 ^ 20
 d4:x.dn.x.ls.length<=60
 d5:∀ l∈x.dn.x.ls,l.length<=64
 i1:∀ z∈x.wi.c::(bx x.wi.ps).flatMap bI,z.natAbs<2 ^ 1000
 i2:x.wi.ps.length<=63
 s1:∀ z∈[x.di.n,x.di.v]++srt (My.up x.di.v x.di.C),z.natAbs<2 ^ 1000
 s2:(srt (My.up x.di.v x.di.C)).length<=64
 b:∀ z∈L4 x.ba.q,z.natAbs<2 ^ 1000
 tt:0<=x.up.x.tt/\0<=x.dn.x.tt
theorem Nb.kx {m:Nat} (h:Nb x m) (fm:m<=1000) (k:Kh x n):Kx x:=by
 have few:=k.few
 have r64:=k.r64
 obtain ⟨W1,o1⟩:=k.cm.ok
 obtain ⟨W2,o2⟩:=k.wn.ok
 have lu:=jf k.up.g k.up.t few
 have ld:=jf k.dn.g k.dn.t few
 refine ⟨fun z m=>Th.big ?_,o1.nd,by have:=k.cm.k;lia,k.cm.nums few h.cm,o2.nd,by have:=k.wn.k;lia,k.wn.nums few h.wn,h.up.km,h.up.nums fm k.up few,fun l m z e=>(h.up.ls l m z e).mid,lu.1,k.up.g.small,h.dn.km,h.dn.nums fm k.dn few,fun l m z e=>(h.dn.ls l m z e).mid,ld.1,k.dn.g.small,h.wins fm,by have:=k.wl;lia,h.seen fm k,?_,h.sums fm,by have:=k.up.g.vl;have:=k.dn.g.vl;lia⟩
 ·simp only [cP,iW,or_false] at m
  rcases m with rfl | rfl | rfl
  ·exact ⟨by lia,by lia⟩
  ·exact h.rc
  ·exact h.sn
 ·rw [fX];have:=k.dl.2.1;lia
theorem Kx.Sy (h:f.c.length<=63):(fN f).length<=200:=by
 unfold fN
 rw [cV,Ss,(uc f.c).length_eq]
 show 2+_<=_
 lia
theorem Kx.aiD (h:Kx x):(x.wi.c::(bx x.wi.ps).flatMap bI).length<=200:=by
 have:=h.i2
 rw [dH,Sh,je]
 lia
theorem Kx.Z9 (h:Kx x):([x.di.n,x.di.v]++srt (My.up x.di.v x.di.C)).length<=200:=by
 have:=h.s2
 rw [cV]
 show 2+_<=_
 lia
theorem Kx.sum (h:Kx x):((nW x).map (·.length)).sum+(nW x).length<=1048576:=by
 have a0:=yg (h:=bG "keep") tb_g% (nY h.k (by show 3<=200;decide))
 have a1:=yg (h:=bG "came") tb_g% (nY h.cn (Kx.Sy h.cl))
 have a2:=yg (h:=bG "went") tb_g% (nY h.ws (Kx.Sy h.wl))
 have a3:=yg (h:=bG "up") tb_g% (Sw h.u2 h.u3 h.u4 h.u5)
 have a4:=yg (h:=bG "down") tb_g% (Sw h.d2 h.d3 h.d4 h.d5)
 have a5:=yg (h:=bG "window") tb_g% (nY h.i1 h.aiD)
 have a6:=yg (h:=bG "seen") tb_g% (nY h.s1 h.Z9)
 have a7:=yg (h:=bG "sums") tb_g% (nY h.b (by show 4<=200;decide))
 unfold nW
 simp only [dW,Dt,jr,adS,dH,adM] at *
 lia
noncomputable def aob (A:Ad):Sp:=fun vs H Q _=>∃ x:KS,vs=[.ref x.k]/\Kp A H x/\Kx x/\∀ H',Same H H'->Q (.str (iu (bG "\n") (nW x))) H'
theorem abq (T:Tx K mg A):cB P w K mg base CX0 4 A.abU A.N6 Q14 (aob A):=by
 k_dat (T.ah0.ok,Le,s) "a"
 ·obtain ⟨x,rfl,_⟩:=h
  rfl
 ·obtain ⟨x,rfl,hK,hx,q⟩:=h
  refine ⟨_,(ao (psS 1 Le.nd (dR (aj (aK jc gF (aF (Ol T) tb_g% T.ZQ aL (aj (dR (aj (pf 0) (aj (pf 0) (aj (pf 0) au)))) au))) (aj (aK jc gF (aF (ak8 T) tb_g% T.F'45 aL (aj (pf 0) au))) (aj (aK jc gF (aF (ak8 T) tb_g% T.F'45 aL (aj (pf 0) au))) (aj (aK jc gF (aF (ak7 T) tb_g% T.F'44 aL (aj (pf 0) au))) (aj (aK jc gF (aF (ak7 T) tb_g% T.F'44 aL (aj (pf 0) au))) (aj (aK jc gF (aF (ok'43 T) tb_g% T.F'43 aL (aj (pf 0) au))) (aj (aK jc gF (aF (Ol T) tb_g% T.ZQ aL (aj (aK wX (dR (aj (JV (pf 0) rfl) (aj (JV (pf 0) rfl) au))) (JV (pf 0) rfl)) au))) (aj (aK jc gF (aF (Ol T) tb_g% T.ZQ aL (aj (JV (pf 0) rfl) au))) au))))))))))
   (aC (bQ (jG JB Ej Ql RK gF (aj (pv 1) au))))),?_⟩
  refine ⟨_,rfl,rdF hK.o T.bF T.Cu (yI ..) ⟨_,rfl,rdF hK.o T.bF T.Cv (tZ ..) ⟨_,rfl,rdF hK.o T.bF T.pU (rE ..) ⟨by show 3<=sizeLine;decide,fun l hl=>?_⟩⟩⟩⟩
  refine ⟨l,[x.room,x.reach,x.span],rfl,ak,hx.k,by show 3<=900;decide,fun H1 t1=>⟨_,_,rfl,rfl,GQ tb_g% (GR (nY hx.k (by show 3<=200;decide))),?_⟩⟩
  have s1:=(Same.new (o:=.lst [.int x.room,.int x.reach,.int x.span]) hl).trans t1
  clear t1 hl
  refine ⟨_,rfl,rdF (s1 _ _ hK.o) T.bF T.xP (Ii ..) ⟨x.cm,x.room,rfl,hK.cm.same s1,hx.cm,hx.cl,hx.cn,fun H2 t2=>⟨_,_,rfl,rfl,GQ tb_g% (GR (nY hx.cn (Kx.Sy hx.cl))),?_⟩⟩⟩
  have s2:=s1.trans t2
  refine ⟨_,rfl,rdF (s2 _ _ hK.o) T.bF T.xQ (Ij ..) ⟨x.wn,x.room,rfl,hK.wn.same s2,hx.wn,hx.wl,hx.ws,fun H3 t3=>⟨_,_,rfl,rfl,GQ tb_g% (GR (nY hx.ws (Kx.Sy hx.wl))),?_⟩⟩⟩
  have s3:=s2.trans t3
  refine ⟨_,rfl,rdF (s3 _ _ hK.o) T.bF T.xR (abl ..) ⟨x.up.p,x.up.x,rfl,hK.up.same s3,hx.u1,hx.u2,hx.u3,hx.u4,hx.u5,fun H4 t4=>?_⟩⟩
  have s4:=s3.trans t4
  rw [ale]
  refine ⟨_,_,rfl,rfl,GQ tb_g% (GR (Sw hx.u2 hx.u3 hx.u4 hx.u5)),?_⟩
  refine ⟨_,rfl,rdF (s4 _ _ hK.o) T.bF T.xT (Ik ..) ⟨x.dn.p,x.dn.x,rfl,hK.dn.same s4,hx.d1,hx.d2,hx.d3,hx.d4,hx.d5,fun H5 t5=>?_⟩⟩
  have s5:=s4.trans t5
  rw [ale]
  refine ⟨_,_,rfl,rfl,GQ tb_g% (GR (Sw hx.d2 hx.d3 hx.d4 hx.d5)),?_⟩
  refine ⟨_,rfl,rdF (s5 _ _ hK.o) T.bF T.sV (oO ..) ⟨x.wi.p,x.wi.dx,x.wi.l,x.room,x.reach,x.wi.c,x.wi.ps,rfl,hK.wi.same s5,hx.i1,by have:=hx.i2;lia,fun H6 t6=>⟨_,_,rfl,rfl,GQ tb_g% (GR (nY hx.i1 hx.aiD)),?_⟩⟩⟩
  have s6:=s5.trans t6
  have D6:=hK.di.same s6
  refine ⟨_,rfl,rdF (s6 _ _ hK.o) T.bF T.sW (yJ ..) (rdF D6.o T.eV T.Cj (rC ..) ⟨_,rfl,rdF (s6 _ _ hK.o) T.bF T.sW (yJ ..) (rdF D6.o T.eV T.vH (m8 ..) ⟨by show 2<=sizeLine;decide,fun m hm=>?_⟩)⟩)⟩
  have t7:=Same.new (o:=.lst [.int x.di.n,.int x.di.v]) hm
  have f7:(upd H6 m (.lst [.int x.di.n,.int x.di.v])) m=some (.lst [.int x.di.n,.int x.di.v]):=ak
  generalize upd H6 m (.lst [.int x.di.n,.int x.di.v])=H7 at t7 f7 ⊢
  have s7:=s6.trans t7
  have D7:=D6.same t7
  refine ⟨_,rfl,rdF (s7 _ _ hK.o) T.bF T.sW (yJ ..) (rdF D7.o T.eV T.Ck (Dc ..) ⟨m,x.di.l,_,_,rfl,rfl,f7,D7.l,?_,fun k hk=>?_⟩)⟩
  ·have:=bB (n:=66) (by decide)
   have:=hx.s2
   rw [aZ]
   show 2+_<=_
   lia
  have t8:=Same.new (o:=.lst ([.int x.di.n,.int x.di.v]++(srt (My.up x.di.v x.di.C)).map V.int)) hk
  refine ⟨k,[x.di.n,x.di.v]++srt (My.up x.di.v x.di.C),rfl,by rw [ak,cC];rfl,hx.s1,by have:=hx.Z9;lia,fun H8 t9=>⟨_,_,rfl,rfl,GQ tb_g% (GR (nY hx.s1 hx.Z9)),?_⟩⟩
  have s8:=s7.trans (t8.trans t9)
  have B8:=hK.ba.same s8
  refine ⟨_,rfl,rdF (s8 _ _ hK.o) T.bF T.uW (qg ..) (rdF B8.o T.mX T.xO (Dh ..) ⟨x.ba.l,L4 x.ba.q,rfl,B8.l,hx.b,by show 4<=900;decide,fun H9 t10=>⟨_,_,rfl,rfl,GQ tb_g% (GR (nY hx.b (by show 4<=200;decide))),?_⟩⟩)⟩
  have s9:=s8.trans t10
  have e0:=rF (a:=bG "keep ") (b:=bG "keep") tb_g% (ts:=([x.room,x.reach,x.span]:List Int).map sI) (vp _ _)
  have e1:=rF (a:=bG "came ") (b:=bG "came") tb_g% (ts:=(fN x.cm).map sI) (by unfold fN;exact vp _ _)
  have e2:=rF (a:=bG "went ") (b:=bG "went") tb_g% (ts:=(fN x.wn).map sI) (by unfold fN;exact vp _ _)
  have e3:=rF (a:=bG "up ") (b:=bG "up") tb_g% (ts:=rT x.up.x) (ald _)
  have e4:=rF (a:=bG "down ") (b:=bG "down") tb_g% (ts:=rT x.dn.x) (ald _)
  have e5:=rF (a:=bG "window ") (b:=bG "window") tb_g% (ts:=(x.wi.c::(bx x.wi.ps).flatMap bI).map sI) (vp _ _)
  have e6:=rF (a:=bG "seen ") (b:=bG "seen") tb_g% (ts:=([x.di.n,x.di.v]++srt (My.up x.di.v x.di.C)).map sI) (vp _ _)
  have e7:=rF (a:=bG "sums ") (b:=bG "sums") tb_g% (ts:=(L4 x.ba.q).map sI) (vp _ _)
  refine ⟨by show 8<=sizeLine;decide,fun L hL=>?_⟩
  refine ⟨rfl,_,rfl,bG "\n",L,nW x,rfl,rfl,.inl (.inl ?_),by decide +kernel,hx.sum,q _ (s9.trans (Same.new hL))⟩
  rw [ak]
  unfold nW
  rw [<- e0,<- e1,<- e2,<- e3,<- e4,<- e5,<- e6,<- e7]
  rfl
open MK
noncomputable def endOf (f:Int) (bs:List (Nat × Int)):Int:=f+(bs.map fun b=>(2:Int) ^ b.1).sum
structure Blk (last:Int) (l:Nat) (t:Int):Prop where
 dv:t % 2 ^ l=0
 fits:t+2 ^ l<=last
 top:¬ (t % (2 ^ l*2)=0/\t+2 ^ l*2<=last)
noncomputable def Cov (f last:Int) (bs:List (Nat × Int)):Prop:=∀ (i l:Nat) (t:Int),bs[i]? = some (l,t)->t=endOf f (bs.take i)/\Blk last l t
noncomputable def Cnt (last at_:Int) (n:Nat):Prop:=(at_ % 2 ^ n=0/\n<=52)\/∃ d:Nat,at_ % 2 ^ d=0/\last-at_<2 ^ d/\n+d<=104
theorem ud (h:(2:Int) ^ l<2 ^ k):l<k:=by
 rcases ig l k with h1 | h1
 ·exact h1
 ·have:(2:Nat) ^ k<=2 ^ l:=yR (by decide) h1
  have:(2:Int) ^ k<=2 ^ l:=by exact_mod_cast this
  lia
theorem SJ (h:t % 2 ^ n=0) (hl:l<=n):t % 2 ^ l=0:=by
 have h1:(2:Int) ^ n ∣ t:=XD h
 have h2:(2:Int) ^ l ∣ 2 ^ n:=⟨2 ^ (n-l),by rw [<- Qp];congr 1;lia⟩
 exact Int.emod_eq_zero_of_dvd (Int.dvd_trans h2 h1)
theorem akd (h:t % 2 ^ l=0) (hn:¬ t % (2 ^ l*2)=0):(t+2 ^ l) % 2 ^ (l+1)=0:=by
 rw [lM]
 obtain ⟨c,rfl⟩:=XD h
 have hc:¬ c % 2=0:=fun z=>hn (by
  obtain ⟨e,rfl⟩:=XD z
  rw [<- zV];exact aeV _ _)
 have:2 ^ l*c+2 ^ l=2 ^ l*2*((c+1) / 2):=by
  have e:c=2*((c+1) / 2)-1:=by lia
  generalize (c+1) / 2=e2 at e
  subst e
  grind
 rw [this];exact aeV _ _
theorem Blk.lv (b:Blk last l t) (h0:0<=t) (hl:last<2 ^ 51):l<=50:=by
 have:=b.fits
 have:=ud (l:=l) (k:=51) tb_g%
 lia
theorem Cnt.step (h:Cnt last t n) (b:Blk last l t) (h0:0<=t) (hl:last<2 ^ 51):Cnt last (t+2 ^ l) (n+1):=by
 have l50:=b.lv h0 hl
 have hf:=b.fits
 by_cases hA:t % (2 ^ l*2)=0
 ·have ht:=b.top
  refine .inr ⟨l,?_,?_,?_⟩
  ·rw [Int.add_emod_right];exact b.dv
  ·have:¬ t+2 ^ l*2<=last:=fun z=>ht ⟨hA,z⟩
   lia
  ·rcases h with ⟨_,h1⟩ | ⟨d,_,h2,h3⟩
   ·lia
   ·have:=ud (l:=l) (k:=d) tb_g%
    lia
 ·rcases h with ⟨h1,h2⟩ | ⟨d,h1,h2,h3⟩
  ·have nl:n<=l:=by
    rcases ig l n with z | z
    ·exact absurd (by rw [<- lM];exact SJ h1 z) hA
    ·exact z
   exact .inl ⟨SJ (akd b.dv hA) tb_g%,by lia⟩
  ·have:=ud (l:=l) (k:=d) tb_g%
   exact absurd (by rw [<- lM];exact SJ h1 this) hA
theorem Cnt.len (h:Cnt last t n):n<=104:=by
 rcases h with ⟨_,h⟩ | ⟨d,_,_,h⟩ <;> lia
theorem Lh (f:Int) (bs:List (Nat × Int)) (b:Nat × Int):endOf f (bs++[b])=endOf f bs+2 ^ b.1:=by
 unfold endOf
 rw [cC,Ds]
 simp
 lia
theorem Cov.snoc {f:Int} {bs:List (Nat × Int)} (h:Cov f last bs) (e:endOf f bs=t) (b:Blk last l t):Cov f last (bs++[(l,t)]):=fun i l' t' hi=>by
 have li:=(gH.mp hi).1
 rw [cV] at li
 rcases (show i<bs.length\/i=bs.length by simp at li;lia) with z | z
 ·rw [qm z] at hi
  rw [VH tb_g%]
  exact h i l' t' hi
 ·subst z
  rw [vm (bh _),wJ] at hi
  have:(l,t)=(l',t'):=bW hi
  cases this
  rw [VH tb_g%,qu]
  exact ⟨e.symm,b⟩
structure Cb (H:Hp) (a:Addr) (ps:List Addr) (bs:List (Nat × Int)):Prop where
 l:H a=some (.lst (ps.map V.ref))
 n:ps.length=bs.length
 t:∀ (i:Nat) (p:Addr) (b:Nat × Int),ps[i]? = some p->bs[i]? = some b->H p=some (.tup [.int b.1,.int b.2])
theorem Cb.same {a:Addr} {ps:List Addr} {bs:List (Nat × Int)} (h:Cb H a ps bs) (s:Same H H'):Cb H' a ps bs:=⟨s _ _ h.l,h.n,fun i p b e1 e2=>s _ _ (h.t i p b e1 e2)⟩
theorem Cb.snoc {a:Addr} {ps:List Addr} {bs:List (Nat × Int)} {b:Nat × Int} (h:Cb H a ps bs) (hp:H p=some (.tup [.int b.1,.int b.2])):Cb (upd H a (.lst ((ps++[p]).map V.ref))) a (ps++[p]) (bs++[b]):=by
 refine ⟨ak,by simp [h.n],fun i p' b' e1 e2=>?_⟩
 have li:=(gH.mp e1).1
 rw [cV] at li
 rcases (show i<ps.length\/i=ps.length by simp at li;lia) with z | z
 ·rw [qm z] at e1
  rw [qm (by rw [<- h.n];exact z)] at e2
  have:=h.t i p' b' e1 e2
  rw [aA (iw this h.l (by intro z;cases z))];exact this
 ·subst z
  rw [vm (bh _),wJ] at e1
  rw [h.n,vm (bh _),wJ] at e2
  have e1:p=p':=bW e1
  have e2:b=b':=bW e2
  subst e1 e2
  rw [aA (iw hp h.l (by intro z;cases z))];exact hp
noncomputable def ake:Sp:=fun vs H Q _=>∃ f l:Int,vs=[.int f,.int l]/\0<=f/\f<l/\l<2 ^ 51/\∀ (a:Addr) (ps:List Addr) (bs:List (Nat × Int)) (H':Hp),H a=none->Same H H'->Cb H' a ps bs->Cov f l bs->endOf f bs=l->bs.length<=104->Q (.ref a) H'
noncomputable def aoc (σ:St) (_:Hp):Nat:=match σ with
 | [_,some (.int l),_,some (.int t),_,_]=>(l-t).toNat
 | _=>0
noncomputable def aod (σ:St) (_:Hp):Nat:=match σ with
 | [_,_,_,_,some (.int j),_]=>(60-j).toNat
 | _=>0
theorem ok'47 (T:Tx K mg A):cB P w K mg base CX0 1 A.abV A.aa4 ["first","last"] ake:=by
 k_dat (T.F'47.ok,m6,s) "a"
 ·obtain ⟨f,l,rfl,_⟩:=h
  rfl
 ·obtain ⟨f,l,rfl,f0,fl,l51,q⟩:=h
  refine ⟨_,(ao (psS 2 m6.nd (dR au))
   (ao (psS 3 m6.nd (pv 0))
   (ao (jD jB (aQ vC (pv 3) (pv 1) (aY _)) (ao (psS 4 m6.nd aB)
   (ao (psS 5 m6.nd aB)
   (ao (jD jB (PW.pt (pw_and (aQ lN (aK iU (pv 3) (aK lA (pv 5) aB)) aB (aY _)) (pw_and1 (aQ aaE (aK bA (pv 3) (aK lA (pv 5) aB)) (pv 1) (aY _))))) (ao (psS 4 m6.nd (aK bA (pv 4) aB))
   (aC (psS 5 m6.nd (aK lA (pv 5) aB)))))
   (ao (bC (jG mL sY sZ d8 (pv 2) (aj (lY (aj (pv 4) (aj (pv 3) au))) au)))
   (aC (psS 3 m6.nd (aK bA (pv 3) (pv 5)))))))))
   (aC (bQ (pv 2)))))),?_⟩
  refine ⟨dF _,fun a ha=>⟨_,rfl,?_⟩⟩
  have s0:=Same.new (o:=.lst []) ha
  have c0:Cb (upd H a (.lst [])) a [] []:=⟨ak,rfl,fun i p b e _=>by cases e⟩
  show z8 _ _ _ [some (.int f),some (.int l),some (.ref a),some (.int f),none,none] (upd H a (.lst []))
  generalize upd H a (.lst [])=H1 at s0 c0 ⊢
  refine jE (fun σ H'=>∃ (t:Int) (ps:List Addr) (bs:List (Nat × Int)) (x y:Option V),σ=[some (.int f),some (.int l),some (.ref a),some (.int t),x,y]/\Same H H'/\Cb H' a ps bs/\Cov f l bs/\endOf f bs=t/\Cnt l t bs.length/\f<=t/\t<=l) aoc
   ⟨f,[],[],none,none,rfl,s0,c0,(fun i l t e=>by cases e),(by show f+0=f;lia),.inl ⟨(by show f % 1=0;lia),by decide⟩,by lia,by lia⟩ ?_
   (fun σ H Q Q' hq h=>fj (jj (bU 3) (bU 1)) σ H Q Q' hq h)
  rintro σ H2 ⟨t,ps,bs,x,y,rfl,sH,cb,cv,ee,cn,ft,tl⟩
  refine ⟨_,rfl,_,rfl,_,_,rfl,rfl,_,rfl,fH (fun h=>?_) (fun h=>?_)⟩
  ·have hlt:t<l:=of_decide_eq_true h
   show z8 _ _ _ [some (.int f),some (.int l),some (.ref a),some (.int t),some (.int 0),some (.int 1)] H2
   refine jE (fun σ H'=>∃ j:Nat,σ=[some (.int f),some (.int l),some (.ref a),some (.int t),some (.int j),some (.int (2 ^ j))]/\H'=H2/\t % 2 ^ j=0/\t+2 ^ j<=l) aod
    ⟨0,rfl,rfl,(by show t % 1=0;lia),(by show t+1<=l;lia)⟩ ?_
    (fun σ H Q Q' hq h=>Nz (fj (aa0 (yC (bU 3) (yC (bU 5) (mC _))) (mC _))) (fj (jj (jj (bU 3) (yC (bU 5) (mC _))) (bU 1))) σ H Q Q' hq h)
   rintro σ H3 ⟨j,rfl,rfl,dv,fit⟩
   have pj:(0:Int)<2 ^ j:=Eo (by decide)
   refine ⟨_,rfl,_,rfl,_,_,rfl,rfl,iV (by decide) (by decide),_,_,rfl,rfl,(by show (0:Int)<2 ^ j*2;lia),rfl,_,rfl,fH (fun h1=>?_) (fun h1=>tH ?_)⟩
   ·have e1:t % (2 ^ j*2)=0:=V.int.inj (of_decide_eq_true h1)
    refine ⟨_,rfl,_,rfl,_,_,rfl,rfl,iV (by decide) (by decide),_,_,rfl,rfl,_,rfl,_,_,rfl,rfl,_,rfl,fH (fun h2=>?_) (fun h2=>?_)⟩
    ·have e2:t+2 ^ j*2<=l:=of_decide_eq_true h2
     have lv:=ud (l:=j) (k:=51) tb_g%
     refine ⟨_,rfl,_,_,rfl,rfl,_,rfl,_,_,rfl,rfl,iV (by decide) (by decide),⟨j+1,?_,rfl,by rw [lM];exact e1,by rw [lM];exact e2⟩,?_⟩
     ·rw [lM,show ((j+1:Nat):Int)=(j:Int)+1 by lia];rfl
     ·show (60-((j:Int)+1)).toNat<(60-(j:Int)).toNat
      lia
    ·skip
     have b:Blk l j t:=⟨dv,fit,(fun z=>h2 (decide_eq_true z.2))⟩
     refine ⟨_,rfl,.inl ⟨rfl,_,.inl (.inl cb.l)⟩,_,rfl,_,rfl,(by show 2<=sizeLine;decide),fun p hp=>?_⟩
     have s1:=Same.new (o:=.tup [.int (j:Int),.int t]) hp
     have cb1:=cb.same s1
     have hpt:(upd H3 p (.tup [.int (j:Int),.int t])) p=some (.tup [.int ((j,t):Nat × Int).1,.int ((j,t):Nat × Int).2]):=ak
     have sA:=sH.trans s1
     generalize upd H3 p (.tup [.int (j:Int),.int t])=H4 at s1 cb1 hpt sA ⊢
     have cb2:=cb1.snoc hpt
     refine ⟨a,_,_,rfl,rfl,cb1.l,bB (by rw [aZ,cb1.n];have:=cn.len;lia),?_⟩
     rw [show ps.map V.ref++[V.ref p]=(ps++[p]).map V.ref by rw [cC];rfl]
     have sB:Same H (upd H4 a (.lst ((ps++[p]).map V.ref))):=fun b o e=>by
      rw [aA (aq e ha)];exact sA b o e
     generalize upd H4 a (.lst ((ps++[p]).map V.ref))=H5 at cb2 sB ⊢
     refine ⟨_,rfl,_,rfl,_,_,rfl,rfl,⟨t+2 ^ j,ps++[p],bs++[(j,t)],_,_,rfl,sB,cb2,cv.snoc ee b,?_,?_,by lia,by have:=b.fits;lia⟩,?_⟩
     ·rw [Lh,ee]
     ·rw [cV]
      exact cn.step b tb_g% l51
     ·show (l-(t+2 ^ j)).toNat<(l-t).toNat
      lia
   ·skip
    have b:Blk l j t:=⟨dv,fit,(fun z=>h1 (decide_eq_true (congrArg V.int z.1)))⟩
    refine ⟨_,rfl,.inl ⟨rfl,_,.inl (.inl cb.l)⟩,_,rfl,_,rfl,(by show 2<=sizeLine;decide),fun p hp=>?_⟩
    have s1:=Same.new (o:=.tup [.int (j:Int),.int t]) hp
    have cb1:=cb.same s1
    have hpt:(upd H3 p (.tup [.int (j:Int),.int t])) p=some (.tup [.int ((j,t):Nat × Int).1,.int ((j,t):Nat × Int).2]):=ak
    have sA:=sH.trans s1
    generalize upd H3 p (.tup [.int (j:Int),.int t])=H4 at s1 cb1 hpt sA ⊢
    have cb2:=cb1.snoc hpt
    refine ⟨a,_,_,rfl,rfl,cb1.l,bB (by rw [aZ,cb1.n];have:=cn.len;lia),?_⟩
    rw [show ps.map V.ref++[V.ref p]=(ps++[p]).map V.ref by rw [cC];rfl]
    have sB:Same H (upd H4 a (.lst ((ps++[p]).map V.ref))):=fun b o e=>by
     rw [aA (aq e ha)];exact sA b o e
    generalize upd H4 a (.lst ((ps++[p]).map V.ref))=H5 at cb2 sB ⊢
    refine ⟨_,rfl,_,rfl,_,_,rfl,rfl,⟨t+2 ^ j,ps++[p],bs++[(j,t)],_,_,rfl,sB,cb2,cv.snoc ee b,?_,?_,by lia,by have:=b.fits;lia⟩,?_⟩
    ·rw [Lh,ee]
    ·rw [cV]
     exact cn.step b tb_g% l51
    ·show (l-(t+2 ^ j)).toNat<(l-t).toNat
     lia
  ·have hge:¬ t<l:=fun z=>h (decide_eq_true z)
   have e:t=l:=by lia
   exact ⟨_,rfl,q a ps bs H2 ha sH cb cv (by rw [ee,e]) cn.len⟩
noncomputable def vN (ns:List Int) (k:Int):Int:=(ns[k.toNat]?).getD 0
noncomputable def akf (K:aW):Sp:=fun vs H Q _=>∃ (a:Addr) (ns:List Int) (k:Int),vs=[.ref a,.int k]/\SqL K H a (ns.map V.int)/\0<=k/\Q (.int (vN ns k)) H
theorem alf (T:Tx K mg A):cB P w K mg base CX0 1 A.abW A.Gy Q24 (akf K):=by
 k_dat (T.F'48.ok,RV,s) "a"
 ·obtain ⟨a,ns,k,rfl,_⟩:=h
  rfl
 ·obtain ⟨a,ns,k,rfl,hS,h0,q⟩:=h
  refine ⟨_,(ao (dO (aQ vC (pv 1) (bO dJ (by rfl) T.mZ mK (aj (pv 0) au)) (aY _)) (aC (bQ (dw (ixG (cN hr)) (pv 0) (pv 1) (fun _ _=>rfl)))) cG)
   (aC (bQ aB))),?_⟩
  refine ⟨_,rfl,_,rfl,jw hS ⟨_,_,rfl,rfl,_,rfl,fH (fun h=>?_) (fun h=>?_)⟩⟩
  ·have hk:k<((ns.map V.int).length:Int):=of_decide_eq_true h
   rw [aZ] at hk
   have e:ns[k.toNat]? = some ns[k.toNat]:=fY tb_g%
   unfold vN at q
   rw [e] at q
   refine ⟨_,rfl,_,rfl,lO hS (v:=.int ns[k.toNat]) ?_ q⟩
   have e2:=yq (xs:=ns.map V.int) (j:=k.toNat) (v:=.int ns[k.toNat]) (by rw [gZ,e];rfl)
   rw [zR h0] at e2
   exact e2
  ·have hk:¬ k<((ns.map V.int).length:Int):=fun z=>h (decide_eq_true z)
   rw [aZ] at hk
   unfold vN at q
   rw [vo tb_g%] at q
   exact q
noncomputable def adf (ns:List Int) (k salt:Int):Int:=(vN ns k % 1000003+1)*(48271+1000*k*k+69621*salt*salt) % 2147483647
noncomputable def cT (ns:List Int) (k salt many:Int):Int:=adf ns k salt*adf ns k salt % 2147483629 / 3 % many
theorem jo {k salt:Int} (h:0<many):0<=cT ns k salt many/\cT ns k salt many<many:=⟨El _ tb_g%,Ek _ h⟩
noncomputable def akg (K:aW):Sp:=fun vs H Q _=>∃ (a:Addr) (ns:List Int) (k salt many:Int),vs=[.ref a,.int k,.int salt,.int many]/\SqL K H a (ns.map V.int)/\0<=k/\k<1000000/\0<=salt/\salt<1000000/\0<many/\Q (.int (cT ns k salt many)) H
theorem oF (T:Tx K mg A):cB P w K mg base CX0 2 A.abX A.Vh Q28 (akg K):=by
 k_dat (T.xX.ok,Ga,s) "a"
 ·obtain ⟨a,ns,k,salt,many,rfl,_⟩:=h
  rfl
 ·obtain ⟨a,ns,k,salt,many,rfl,hS,hk0,hk1,hs0,hs1,hm,q⟩:=h
  refine ⟨_,(ao (psS 4 Ga.nd (aK bA (aK iU (aF (alf T) tb_g% T.F'48 aL (aj (pv 0) (aj (pv 1) au))) aB) aB))
   (ao (psS 5 Ga.nd (aK iU (aK lA (pv 4) (aK bA (aK bA aB (aK lA (aK lA aB (pv 1)) (pv 1))) (aK lA (aK lA aB (pv 2)) (pv 2)))) aB))
   (aC (bQ (aK iU (aK Q5 (aK iU (aK lA (pv 5) (pv 5)) aB) aB) (pv 3)))))),?_⟩
  refine ⟨_,rfl,_,rfl,a,ns,k,rfl,hS,hk0,?_⟩
  refine ⟨_,_,rfl,rfl,(by show (0:Int)<1000003;decide),_,_,rfl,rfl,?_⟩
  have c0:=El (vN ns k) (show (1000003:Int)≠0 by decide)
  have c1:=Ek (vN ns k) (show (0:Int)<1000003 by decide)
  refine ⟨_,rfl,_,rfl,_,_,rfl,rfl,Rt tb_g% tb_g%,_,rfl,_,_,rfl,rfl,iV tb_g% tb_g%,_,_,rfl,rfl,?_⟩
  refine ⟨_,rfl,_,_,rfl,rfl,Rt tb_g% tb_g%,_,rfl,_,_,rfl,rfl,iV tb_g% tb_g%,_,_,rfl,rfl,_,_,rfl,rfl,Rt tb_g% tb_g%,_,_,rfl,rfl,(by show (0:Int)<2147483647;decide),?_⟩
  unfold cT at q
  have hz:(vN ns k % 1000003+1)*(48271+1000*k*k+69621*salt*salt) % 2147483647=adf ns k salt:=rfl
  dsimp only
  rw [hz]
  have z0:0<=adf ns k salt:=El _ (by decide)
  have z1:adf ns k salt<2147483647:=Ek _ (by decide)
  generalize adf ns k salt=z at q z0 z1 ⊢
  exact ⟨_,rfl,_,rfl,_,_,rfl,rfl,Rt tb_g% tb_g%,_,_,rfl,rfl,(by show (0:Int)<2147483629;decide),_,_,rfl,rfl,⟨by decide,by decide⟩,_,rfl,_,_,rfl,rfl,hm,q⟩
noncomputable def fM (ns:List Int):Int:=if cT ns 0 5 32=0 then 33 else if cT ns 0 3 8=0 then 16+cT ns 0 4 3 else min (max 0 ((ns.length:Int)-2)) 9
theorem rG (ns:List Int):0<=fM ns/\fM ns<=33:=by
 unfold fM
 have:=jo (ns:=ns) (k:=0) (salt:=4) (many:=3) (by decide)
 split
 ·lia
 ·split
  ·lia
  ·lia
noncomputable def aoe (K:aW):Sp:=fun vs H Q _=>∃ (a:Addr) (ns:List Int),vs=[.ref a]/\SqL K H a (ns.map V.int)/\Q (.int (fM ns)) H
theorem Vx (T:Tx K mg A):cB P w K mg base CX0 3 A.abY A.Vi ["_law_script"] (aoe K):=by
 k_dat (T.ac0.ok,ac2,s) "a"
 ·obtain ⟨a,ns,rfl,_⟩:=h
  rfl
 ·obtain ⟨a,ns,rfl,hS,q⟩:=h
  unfold fM at q
  refine ⟨_,(ao (dO (aQ lN (aF (oF T) tb_g% T.xX aL (aj (pv 0) (aj aB (aj aB (aj aB au))))) aB (aY _)) (aC (bQ aB)) cG)
   (ao (dO (aQ lN (aF (oF T) tb_g% T.xX aL (aj (pv 0) (aj aB (aj aB (aj aB au))))) aB (aY _)) (aC (bQ (aK bA aB (aF (oF T) tb_g% T.xX aL (aj (pv 0) (aj aB (aj aB (aj aB au)))))))) cG)
   (aC (bQ (bO (acg rfl) (by rfl) T.akM alJ (aj (bO (Fj rfl) (by rfl) T.aa9 XS (aj aB (aj (aK uF (bO dJ (by rfl) T.mZ mK (aj (pv 0) au)) aB) au))) (aj aB au))))))),?_⟩
  refine ⟨_,rfl,a,ns,0,5,32,rfl,hS,by decide,by decide,by decide,by decide,by decide,rfl,_,rfl,fH (fun h=>?_) (fun h=>?_)⟩
  ·have h:cT ns 0 5 32=0:=V.int.inj (of_decide_eq_true h)
   rw [if_pos h] at q
   exact q
  have h:¬ cT ns 0 5 32=0:=fun z=>h (decide_eq_true (congrArg V.int z))
  rw [if_neg h] at q
  refine ⟨_,rfl,a,ns,0,3,8,rfl,hS,by decide,by decide,by decide,by decide,by decide,rfl,_,rfl,fH (fun h2=>?_) (fun h2=>?_)⟩
  ·have h2:cT ns 0 3 8=0:=V.int.inj (of_decide_eq_true h2)
   rw [if_pos h2] at q
   exact ⟨_,rfl,a,ns,0,4,3,rfl,hS,by decide,by decide,by decide,by decide,by decide,_,_,rfl,rfl,q⟩
  have h2:¬ cT ns 0 3 8=0:=fun z=>h2 (decide_eq_true (congrArg V.int z))
  rw [if_neg h2] at q
  refine ⟨_,rfl,jw hS ⟨_,_,rfl,rfl,_,_,rfl,_,_,rfl,?_⟩⟩
  rw [aZ]
  have e:∀ l:Int,(if (9:Int)<(if l>0 then l else 0) then 9 else (if l>0 then l else 0))=min (max 0 l) 9:=fun l=>by split <;> split <;> lia
  rw [<- e] at q
  exact q
open MK
noncomputable def qj (ns:List Int) (k:Int):Int:=if fM ns>9 then cT ns k 30 5 % (if fM ns>18 then 2 else 3) else cT ns k 30 5
theorem Li (ns:List Int) (k:Int):0<=qj ns k/\qj ns k<5:=by
 unfold qj
 have:=jo (ns:=ns) (k:=k) (salt:=30) (many:=5) (by decide)
 split
 ·split <;> lia
 ·lia
noncomputable def Lj (ns:List Int) (k:Int) (j:Nat):R3:=⟨if cT ns k (61+j) 5<3 then 0 else if cT ns k (61+j) 5=3 then 1 else 2,if cT ns k (41+j) 4=0 then vN ns k % 1152921504606846976 else cT ns k (31+j) 12,1+cT ns k (51+j) 40⟩
theorem abr (ns:List Int) (k:Int) (j:Nat):(Lj ns k j).ok:=by
 have h1:=jo (ns:=ns) (k:=k) (salt:=31+j) (many:=12) (by decide)
 have h2:=jo (ns:=ns) (k:=k) (salt:=51+j) (many:=40) (by decide)
 have h3:=El (vN ns k) (show (1152921504606846976:Int)≠0 by decide)
 have h4:=Ek (vN ns k) (show (0:Int)<1152921504606846976 by decide)
 refine ⟨?_,?_,?_,?_,?_,?_⟩
 ·show 0<=(if cT ns k (61+j) 5<3 then (0:Int) else if cT ns k (61+j) 5=3 then 1 else 2)
  split
  ·lia
  ·split <;> lia
 ·show (if cT ns k (61+j) 5<3 then (0:Int) else if cT ns k (61+j) 5=3 then 1 else 2)<=2
  split
  ·lia
  ·split <;> lia
 ·show 0<=(if cT ns k (41+j) 4=0 then vN ns k % 1152921504606846976 else cT ns k (31+j) 12)
  split <;> lia
 ·show (if cT ns k (41+j) 4=0 then vN ns k % 1152921504606846976 else cT ns k (31+j) 12)<1152921504606846976
  split <;> lia
 ·show 1<=1+cT ns k (51+j) 40
  lia
 ·show 1+cT ns k (51+j) 40<=1000000000000
  lia
/-- the last one first -/
noncomputable def m9 (ns:List Int) (k:Int):Nat->List R3
 | 0=>[]
 | j+1=>Lj ns k j::m9 ns k j
theorem yK (ns:List Int) (k:Int):∀ n,(m9 ns k n).length=n
 | 0=>rfl
 | n+1=>by rw [m9,dH,yK ns k n]
/-- what comes of rows -/
noncomputable def Of (room:Nat) (reach span:Int):List R3->KS->Prop
 | [],x=>Eqp x (K0 room reach span)
 | r::rs,x'=>∃ x,Of room reach span rs x/\SR r x x'
theorem Of.eq :∀ {rs:List R3} {x y:KS},Of room reach span rs x->Of room reach span rs y->Eqp x y
 | [],_,_,a,b=>a.by b
 | _::_,_,_,⟨_,a,s⟩,⟨_,b,t⟩=>(a.eq b).row s t
open MK
theorem Nb.eq (h:Nb y n) (e:Eqp x y):Nb x n:=by
 have gu:∀ {f g:Rs},ER f g->Gu g n->Gu f n:=fun {f g} e1 g1=>⟨by have:=g1.km;unfold Km at *; rw [e1.tt,e1.mi,e1.ma];exact this,by rw [e1.mi];exact g1.mi,by rw [e1.ma];exact g1.ma,by rw [e1.ls];exact g1.ls,by rw [e1.tn];exact g1.t0,by rw [e1.tn];exact g1.tn⟩
 exact ⟨by rw [e.reach];exact h.rc,by rw [e.span];exact h.sn,by rw [e.cm.c];exact h.cm,by rw [e.wn.c];exact h.wn,gu e.up h.up,gu e.dn h.dn,by rw [e.wi.c];exact h.c0,by rw [e.wi.c];exact h.c1,by rw [e.wi.c,e.wi.b];exact h.wi,by rw [e.di.n];exact h.dn0,by rw [e.di.n];exact h.dn1,by rw [e.di.v];exact h.dv,by rw [e.di.C];exact h.dc,by rw [e.ba];exact h.ba⟩
theorem jq {b:Addr}:b∈x.all↔b=x.k\/b∈x.pts:=by unfold KS.all KS.pts;exact cP
theorem SB.all (h:SB x x'):x'.all=x.all:=by
 have:x'.k::x'.pts=x.k::x.pts:=by rw [h.k,h.pts]
 exact this
/-- a piece on its way: it stands apart from all that was there at H0 -/
structure P5 (A:Ad) (room:Nat) (reach span:Int) (rs:List R3) (H0 H:Hp) (x:KS):Prop where
 sm:Same H0 H
 kp:Kp A H x
 of:Of room reach span rs x
 kh:Kh x rs.length
 nb:Nb x rs.length
 fx:∀ b∈x.all,H0 b=none
 em:∀ b∈x.ems,H0 b=none
theorem P5.row (h:P5 A room reach span rs H0 H x) (hn:rs.length<63) (ok:r.ok) (k1:Kp A H1 x') (s1:SR r x x') (f1:Far A x.pts H H1) (e1:Em H x x'):P5 A room reach span (r::rs) H0 H1 x':=by
 have kh:=h.kh.row hn ok s1
 refine ⟨fun b o e=>f1.pb _ _ (h.sm b o e) fun m=>?_,k1,⟨x,h.of,s1⟩,kh,h.nb.row h.kh kh ok s1,by rw [s1.sb.all];exact h.fx,fun c m=>(e1 c m).elim (h.em c) h.sm.free⟩
 have:=h.fx b (jq.mpr (.inr m))
 rw [e] at this
 cases this
noncomputable def aof (K:aW) (A:Ad):Sp:=fun vs H Q _=>∃ (a t:Addr) (ns:List Int) (k:Int) (room:Nat) (reach span:Int),vs=[.ref a,.int k,.ref t]/\SqL K H a (ns.map V.int)/\0<=k/\k<1000/\H t=some (.tup [.int room,.int reach,.int span])/\2<=room/\room<=15/\room % 2=0/\Th reach/\Th span /\
 ∀ (x:KS) (H':Hp),P5 A room reach span (m9 ns k (qj ns k).toNat) H H' x->Q (.ref x.k) H'
open MK
theorem alg (T:Tx K mg A):cB P w K mg base CX0 8 A.abZ A.BP Q29 (aof K A):=by
 k_dat (T.F'51.ok,eG,s) "a"
 ·obtain ⟨a,t,ns,k,room,reach,span,rfl,_⟩:=h
  rfl
 ·obtain ⟨a,t,ns,k,room,reach,span,rfl,hS,hk0,hk1,ht,r2,r15,ev,hre,hsp,q⟩:=h
  refine ⟨_,(ao (psS 3 eG.nd (gA T.aa8 (abn T) tb_g% rfl T.pR T.b'32 .nil aL (aj (dw (ixG (cN hr)) (pv 2) aB (fun _ _=>rfl)) (aj (dw (ixG (cN hr)) (pv 2) aB (fun _ _=>rfl)) (aj (dw (ixG (cN hr)) (pv 2) aB (fun _ _=>rfl)) au)))))
   (ao (psS 4 eG.nd (aF (oF T) tb_g% T.xX aL (aj (pv 0) (aj (pv 1) (aj aB (aj aB au))))))
   (ao (dO (aQ Gn (aF (Vx T) tb_g% T.ac0 aL (aj (pv 0) au)) aB (aY _)) (aC (psS 4 eG.nd (aK iU (pv 4) (dw (ixG (cN hr)) (dR (aj aB (aj aB au))) (ji M9 (by rfl) T.akL afi (aj (yp Gn (aF (Vx T) tb_g% T.ac0 aL (aj (pv 0) au)) aB (aY _)) au)) (fun _ _=>rfl))))) cG)
   (ao (rR jB rfl (MJ rfl T.RQ (aj (pv 4) au)) (pgN 5 eG.nd) (ao (psS 6 eG.nd (aF (oF T) tb_g% T.xX aL (aj (pv 0) (aj (pv 1) (aj (aK bA aB (pv 5)) (aj aB au))))))
   (ao (dO (aQ lN (aF (oF T) tb_g% T.xX aL (aj (pv 0) (aj (pv 1) (aj (aK bA aB (pv 5)) (aj aB au))))) aB (aY _)) (aC (psS 6 eG.nd (aK iU (aF (alf T) tb_g% T.F'48 aL (aj (pv 0) (aj (pv 1) au))) aB))) cG)
   (ao (psS 7 eG.nd (aK bA aB (aF (oF T) tb_g% T.xX aL (aj (pv 0) (aj (pv 1) (aj (aK bA aB (pv 5)) (aj aB au)))))))
   (ao (psS 8 eG.nd (aF (oF T) tb_g% T.xX aL (aj (pv 0) (aj (pv 1) (aj (aK bA aB (pv 5)) (aj aB au))))))
   (aC (dO (aQ vC (pv 8) aB (aY _)) (aC (bC (cI (pv 3) T.bF T.pY (aip T) tb_g% T.b'29 .nil aL (aj (pv 6) (aj (pv 7) au))))) (aC (dO (aQ lN (pv 8) aB (aY _)) (aC (bC (cI (pv 3) T.bF T.vI (ak0 T) tb_g% T.b'30 .nil aL (aj (pv 6) (aj (pv 7) au))))) (aC (bC (cI (pv 3) T.bF T.vJ (ak1 T) tb_g% T.b'31 .nil aL (aj (pv 7) au)))))))))))))
   (aC (bQ (pv 3))))))),?_⟩
  refine ⟨_,rfl,gB (.inl (.inl ht)) (v:=.int room) rfl ⟨_,rfl,gB (.inl (.inl ht)) (v:=.int reach) rfl ⟨_,rfl,gB (.inl (.inl ht)) (v:=.int span) rfl fun k0 dk n1 n2 n3=>?_⟩⟩⟩
  refine ⟨k0,dk,room,reach,span,rfl,ak,r2,by lia,ev,fun x H2 kp eqx ek Z6 aiE bt=>⟨rfl,?_⟩⟩
  have up2:Same H (upd (upd H dk (.own k0)) k0 (.ins A.fZ dk [])):=fun b o e=>by rw [aA (aq e n1),aA (aq e n2)];exact e
  have s2:Same H H2:=fun b o e=>bt b o (up2 b o e) (aq e n1)
  have W0:P5 A room reach span (m9 ns k 0) H H2 x:=⟨s2,kp,eqx,(kh0 reach span r2 tb_g% ev (.inl r15)).eq eqx,(nb0 hre hsp).eq eqx,fun b m=>by
   rcases jq.mp m with rfl | m
   ·rw [ek];exact n1
   ·exact up2.free (Z6 b m),fun b m=>up2.free (aiE b m)⟩
  clear n1 n2 n3 up2 bt Z6 aiE
  have hS2:=W0.sm.seq hS
  refine ⟨_,rfl,_,rfl,a,ns,k,30,5,rfl,hS2,hk0,by lia,by decide,by decide,by decide,?_⟩
  refine sq fun R1 hR1=>hR1 _ _ (sq fun R hR=>?_)
  have key:∀ G,P5 A room reach span (m9 ns k 0) H G x->R [some (.ref a),some (.int k),some (.ref t),some (.ref k0),some (.int (qj ns k)),none,none,none,none] G:=by
   intro G W
   refine hR _ _ ?_
   obtain ⟨n,en⟩:∃ n:Nat,qj ns k=n:=⟨(qj ns k).toNat,(zR (Li ns k).1).symm⟩
   have n5:=(Li ns k).2
   rw [en] at q n5 ⊢
   refine ⟨_,rfl,(n:Int),rfl,by lia,by lia,Fi (n:=n) (fun i σ G=>∃ (x':KS) (y5 y6 y7 y8:Option V),σ=[some (.ref a),some (.int k),some (.ref t),some (.ref k0),some (.int n),y5,y6,y7,y8]/\P5 A room reach span (m9 ns k i) H G x'/\x'.k=k0) ⟨x,none,none,none,none,rfl,W,ek⟩ ?_ ?_⟩
   ·rintro i σ G hi ⟨x1,y5,y6,y7,y8,rfl,W,hk⟩
    rw [mO]
    have hS1:=W.sm.seq hS
    have ok:=abr ns k i
    have li:=yK ns k i
    refine ⟨_,rfl,_,rfl,_,rfl,_,_,rfl,rfl,a,ns,k,31+i,12,rfl,hS1,hk0,by lia,by lia,by lia,by decide,?_⟩
    refine sq fun R2 hR2=>hR2 _ _ (sq fun R3 hR3=>?_)
    have key2:∀ th,th=(Lj ns k i).th->R3 [some (.ref a),some (.int k),some (.ref t),some (.ref k0),some (.int n),some (.int i),some (.int th),y7,y8] G:=by
     rintro th rfl
     refine hR3 _ _ ?_
     refine ⟨_,rfl,_,rfl,_,rfl,_,_,rfl,rfl,a,ns,k,51+i,40,rfl,hS1,hk0,by lia,by lia,by lia,by decide,_,_,rfl,rfl,?_⟩
     refine ⟨_,rfl,_,rfl,_,rfl,_,_,rfl,rfl,a,ns,k,61+i,5,rfl,hS1,hk0,by lia,by lia,by lia,by decide,?_⟩
     refine ⟨_,rfl,_,_,rfl,rfl,_,rfl,fH (fun h=>?_) (fun h=>?_)⟩
     ·have h:cT ns k (61+i) 5<3:=of_decide_eq_true h
      have kd:(Lj ns k i).kd=0:=if_pos h
      refine ⟨_,rfl,k0,x1.dk,_,rfl,by rw [<- hk];exact W.kp.o,kfN tb_g%,_,rfl,_,rfl,x1,(m9 ns k i).length,(Lj ns k i).th,(Lj ns k i).w,by rw [hk];rfl,W.kp,W.kh,by lia,ok.t0,ok.t1,ok.w1,ok.w2,fun x3 G3 k3 s3 f3 e3=>?_⟩
      exact ⟨x3,_,_,_,_,rfl,W.row tb_g% ok k3 (by unfold SR;rw [if_pos kd];exact s3) f3 e3,s3.sb.k.trans hk⟩
     have h:¬ cT ns k (61+i) 5<3:=fun z=>h (decide_eq_true z)
     refine ⟨_,rfl,rfl,_,rfl,fH (fun h2=>?_) (fun h2=>?_)⟩
     ·have h2:cT ns k (61+i) 5=3:=V.int.inj (of_decide_eq_true h2)
      have kd:(Lj ns k i).kd=1:=(if_neg h).trans (if_pos h2)
      refine ⟨_,rfl,k0,x1.dk,_,rfl,by rw [<- hk];exact W.kp.o,kfN tb_g%,_,rfl,_,rfl,x1,(m9 ns k i).length,(Lj ns k i).th,(Lj ns k i).w,by rw [hk];rfl,W.kp,W.kh,by lia,ok.t0,ok.t1,ok.w1,ok.w2,fun x3 G3 k3 s3 f3 e3=>?_⟩
      exact ⟨x3,_,_,_,_,rfl,W.row tb_g% ok k3 (by unfold SR;rw [if_neg (by rw [kd];decide),if_pos kd];exact s3) f3 e3,s3.sb.k.trans hk⟩
     ·have h2:¬ cT ns k (61+i) 5=3:=fun z=>h2 (decide_eq_true (congrArg V.int z))
      have kd:(Lj ns k i).kd=2:=(if_neg h).trans (if_neg h2)
      refine ⟨_,rfl,k0,x1.dk,_,rfl,by rw [<- hk];exact W.kp.o,kfN tb_g%,_,rfl,x1,(m9 ns k i).length,(Lj ns k i).w,by rw [hk];rfl,W.kp,W.kh,fun x3 G3 k3 s3 f3 e3=>?_⟩
      exact ⟨x3,_,_,_,_,rfl,W.row tb_g% ok k3 (by unfold SR;rw [if_neg (by rw [kd];decide),if_neg (by rw [kd];decide)];exact s3) f3 e3,s3.sb.k.trans hk⟩
    refine ⟨_,rfl,_,rfl,_,rfl,_,_,rfl,rfl,a,ns,k,41+i,4,rfl,hS1,hk0,by lia,by lia,by lia,by decide,rfl,_,rfl,fH (fun h=>?_) (fun h=>?_)⟩
    ·have h:cT ns k (41+i) 4=0:=V.int.inj (of_decide_eq_true h)
     exact ⟨_,rfl,_,rfl,a,ns,k,rfl,hS1,hk0,_,_,rfl,rfl,(by show (0:Int)<1152921504606846976;decide),key2 _ (if_pos h).symm⟩
    ·have h:¬ cT ns k (41+i) 4=0:=fun z=>h (decide_eq_true (congrArg V.int z))
     exact key2 _ (if_neg h).symm
   ·rintro σ G ⟨x1,y5,y6,y7,y8,rfl,W,hk⟩
    exact ⟨_,rfl,by rw [<- hk];exact q x1 G W⟩
  refine ⟨_,rfl,a,ns,rfl,hS2,_,_,rfl,rfl,_,rfl,fH (fun h=>?_) (fun h=>?_)⟩
  ·have h:9<fM ns:=of_decide_eq_true h
   refine ⟨_,rfl,by decide,fun z hz=>?_⟩
   have s3:=W0.sm.trans (Same.new (o:=.lst [V.int 3,V.int 2]) hz)
   have W3:P5 A room reach span (m9 ns k 0) H (upd H2 z (.lst [V.int 3,V.int 2])) x:=⟨s3,W0.kp.same (Same.new hz),W0.of,W0.kh,W0.nb,W0.fx,W0.em⟩
   refine ⟨_,rfl,a,ns,rfl,s3.seq hS,_,_,rfl,rfl,.inr ⟨_,rfl,?_⟩⟩
   have e:qj ns k=cT ns k 30 5 % (if fM ns>18 then 2 else 3):=if_pos h
   rw [e] at key
   by_cases h2:18<fM ns
   ·rw [if_pos (decide_eq_true h2)]
    rw [if_pos h2] at key
    exact lO (xs:=[V.int 3,V.int 2]) (v:=.int 2) (.inl (.inl ak)) rfl ⟨_,_,rfl,rfl,(by show (0:Int)<2;decide),key _ W3⟩
   ·rw [if_neg fun z=>h2 (of_decide_eq_true z)]
    rw [if_neg h2] at key
    exact lO (xs:=[V.int 3,V.int 2]) (v:=.int 3) (.inl (.inl ak)) rfl ⟨_,_,rfl,rfl,(by show (0:Int)<3;decide),key _ W3⟩
  ·have h:¬ 9<fM ns:=fun z=>h (decide_eq_true z)
   have e:qj ns k=cT ns k 30 5:=if_neg h
   rw [e] at key
   exact key _ W0
open MK
theorem FP.of {g f' g' h:Fq} (a:FP room f g h) (e:EF f f') (d:EF g g'):FP room f' g' h:=by
 obtain ⟨cut,ft,t,l⟩:=a
 exact ⟨cut,by rw [<- e.c,<- d.c];exact ft,by rw [<- e.t,<- d.t];exact t,by rw [<- e.l,<- d.l];exact l⟩
theorem RP.of {f f' g' h:Rs} (a:RP f g h) (e:ER f f') (d:ER g g'):RP f' g' h :=
 ⟨by rw [<- e.r];exact a.r,by rw [<- e.tt,<- d.tt];exact a.tt,by rw [<- e.mi,<- d.mi];exact a.mi,by rw [<- e.ma,<- d.ma];exact a.ma,by rw [<- e.r,<- e.tn,<- d.tn,<- e.ov,<- d.ov,<- e.un,<- d.un,<- e.ls,<- d.ls];exact a.st⟩
theorem KP.of (a:KP x y z) (e:Eqp x x') (d:Eqp y y'):KP x' y' z :=
 ⟨a.room.trans e.room,a.reach.trans e.reach,a.span.trans e.span,by rw [<- e.room];exact a.cm.of e.cm d.cm,by rw [<- e.room];exact a.wn.of e.wn d.wn,a.up.of e.up d.up,a.dn.of e.dn d.dn,
  ⟨by rw [<- e.wi.c,<- d.wi.c];exact a.wi.1,by rw [<- e.room,<- e.reach,<- e.wi.c,<- d.wi.c,<- e.wi.b,<- d.wi.b];exact a.wi.2⟩,
  ⟨by rw [<- e.di.n,<- d.di.n];exact a.di.1,by rw [<- e.di.C,<- d.di.C];exact a.di.2.1,by rw [<- e.room,<- e.di.C,<- d.di.C];exact a.di.2.2⟩,by rw [<- e.ba,<- d.ba];exact a.ba⟩
theorem KP.alike {z':KS} (a:KP x y z) (b:KP x' y' z') (e:Eqp x x') (d:Eqp y y'):Eqp z z':=(a.of e d).eq b
theorem aog {z:Int} (h:∀ z,a=some z->Th z) (g:∀ z,b=some z->Th z) (e:lo2 a b=some z):Th z:=by
 cases b with
 | none =>
  cases a with
  | none=>cases e
  | some y=>exact h z e
 | some t=>exact ak9 h (g t rfl) e
theorem aoh {z:Int} (h:∀ z,a=some z->Th z) (g:∀ z,b=some z->Th z) (e:hi2 a b=some z):Th z:=by
 cases b with
 | none =>
  cases a with
  | none=>cases e
  | some y=>exact h z e
 | some t=>exact ala h (g t rfl) e
theorem akh {l m:RG.Ls} (h:∀ a∈l,∀ z∈a,Th z) (g:∀ a∈m,∀ z∈a,Th z):∀ a∈RG.join l m,∀ z∈a,Th z:=by
 intro a ma z mz
 have d:∀ {k:RG.Ls} {i:Nat},(∀ a∈k,∀ z∈a,Th z)->∀ z∈k.getD i [],Th z:=fun {k i} hk z mz=>by
  rw [vU] at mz
  cases e:k[i]? with
  | none=>rw [e] at mz;exact nomatch mz
  | some b=>rw [e] at mz;exact hk b (List.mem_of_getElem? e) z mz
 unfold RG.join RG.qT at ma
 obtain ⟨i,_,rfl⟩:=kj.mp ma
 unfold RG.jn at mz
 rcases cR.mp (RG.mJ.mp mz) with e | e
 ·exact d h z e
 ·exact d g z e
theorem Gu.Af {f k:Rs} {m:Nat} (h:Gu f n) (h':Gu g m) (t0:0<=f.tt) (t1:0<=g.tt) (p:RP f g k) (q:Gr room k i) (few:i<=63):Gu k (n+m+1):=by
 have gl:=jf q.g q.t tb_g%
 refine ⟨?_,fun z e=>aog h.mi h'.mi (p.mi ▸ e),fun z e=>aoh h.ma h'.ma (p.ma ▸ e),p.st.mem (akh h.ls h'.ls),by have:=p.st.mono.1;have:=h.t0;have:=h'.t0;lia,by have:=aiB p.st;have:=h.tn;have:=h'.tn;have:=gl.1;lia⟩
 unfold Km
 rw [p.tt,p.mi,p.ma]
 rcases h.km with ⟨a1,a2,a3⟩ | ⟨a1,a,b,a2,a3⟩
 ·rw [a1,a2,a3,mO]
  exact h'.km
 ·rw [a2,a3]
  refine .inr ⟨by lia,?_⟩
  cases g.mi <;> cases g.ma <;> exact ⟨_,_,rfl,rfl⟩
theorem alh {g k:Fq} (p:FP room f g k) (h:∀ k∈keys f.c,Th k) (h':∀ k∈keys g.c,Th k):∀ z∈keys k.c,Th z:=by
 obtain ⟨cut,a,_⟩:=p
 intro z m
 have m2:z∈keys (mV f.c g.c):=by
  unfold gj at a
  split at a
  ·rw [a.2] at m;exact m
  ·rw [a.2] at m;exact uH m
 rcases (Nj ..).mp m2 with m3 | m3
 ·exact h z m3
 ·exact h' z m3
theorem aoi {q p:Q4} {m:Nat} (h:∀ z∈L4 q,z.natAbs<=n*2 ^ 250) (g:∀ z∈L4 p,z.natAbs<=m*2 ^ 250):∀ z∈L4 (addQ q p),z.natAbs<=(n+m+1)*2 ^ 250:=by
 intro z mz
 have mz:z=q.a+p.a\/z=q.b+p.b\/z=q.c+p.c\/z=q.d+p.d:=by
  have:z∈[q.a+p.a,q.b+p.b,q.c+p.c,q.d+p.d]:=mz
  simpa using this
 have e:∀ {a b:Int},a∈L4 q->b∈L4 p->(a+b).natAbs<=(n+m+1)*2 ^ 250:=fun {a b} m1 m2=>by
  have h1:=h a m1
  have h2:=g b m2
  rw [wK,wM]
  generalize 2 ^ 250=B at h1 h2 ⊢
  generalize n*B=C at h1 ⊢
  generalize m*B=D at h2 ⊢
  lia
 rcases mz with rfl | rfl | rfl | rfl <;> exact e (by simp [L4]) (by simp [L4])
theorem adg (c:Int) (bs:List WN.Box):WN.sum (bs.map (shift c))=WN.sum bs:=by
 unfold WN.sum
 rw [n8]
 rfl
theorem Nb.Af {m:Nat} (p:KP x y z) (a:Alk x y i j) (h:Nb x n) (g:Nb y m):Nb z (n+m+1):=by
 have kz:=p.kh a
 have c0:=h.c0
 have c1:=h.c1
 have d0:=g.c0
 have d1:=g.c1
 have e0:=h.dn0
 have e1:=h.dn1
 have f0:=g.dn0
 have f1:=g.dn1
 refine ⟨by rw [p.reach];exact h.rc,by rw [p.span];exact h.sn,alh p.cm h.cm g.cm,alh p.wn h.wn g.wn,h.up.Af g.up (by have:=a.kx.up.g.vl;lia) (by have:=a.ky.up.g.vl;lia) p.up kz.up kz.few,h.dn.Af g.dn (by have:=a.kx.dn.g.vl;lia) (by have:=a.ky.dn.g.vl;lia) p.dn kz.dn kz.few,by rw [p.wi.1];lia,by rw [p.wi.1];lia,?_,by rw [p.di.1];lia,by rw [p.di.1];lia,p.di.2.2.le tb_g%,fun z m=>?_,by rw [p.ba];exact aoi h.ba g.ba⟩
 ·rw [p.wi.2,p.wi.1]
  refine Wb.settled ⟨fun b mb=>?_,?_⟩ _ _
  ·rcases cR.mp mb with mb | mb
   ·have:=h.wi.b b mb;lia
   ·obtain ⟨o,mo,rfl⟩:=kj.mp mb
    have:=g.wi.b o mo
    refine ⟨?_,?_,?_,?_,this.2.2.2.2⟩
    ·show 0<=o.f+x.wi.c;lia
    ·show o.f+x.wi.c<=_;lia
    ·show 0<=o.l+x.wi.c;lia
    ·show o.l+x.wi.c<=_;lia
  ·have:=h.wi.s
   have:=g.wi.s
   rw [WN.sum_append,adg]
   lia
 ·rw [p.di.2.1] at m
  rcases R7.mp m with m | m
  ·exact h.dc z m
  ·exact g.dc z m
open MK
theorem Lk {room:Int}:∀ {os:List WN.Box} {S:Int} {b:WN.Box},WN.vG room S (b::os)->WN.settle room S b os=b::os
 | [],_,_,_=>rfl
 | o::os,S,b,h=>by rw [WN.iy,if_neg (by have:=h.1;lia),Lk h.2]
theorem Vy {room:Int} {bs:List WN.Box} (h:WN.vG room 0 bs):WN.settled room bs=bs:=by
 cases bs with
 | nil=>rfl
 | cons b os=>exact Lk h
theorem Ar {room:Int} {P:WN.Box->Prop} (hj:∀ b o:WN.Box,P b->P o->P ⟨o.f,b.l,b.s+o.s⟩):∀ {os:List WN.Box} {S:Int} {b:WN.Box},P b->(∀ x∈os,P x)->∀ x∈WN.settle room S b os,P x
 | [],S,b,hb,_,x,m=>by rw [WN.uN] at m;rw [dh.mp m];exact hb
 | o::os,S,b,hb,ho,x,m=>by
  rw [WN.iy] at m
  have h1:=ho o eN
  have h2:∀ y∈os,P y:=fun y z=>ho y (fB _ z)
  split at m
  ·exact Ar hj (hj b o hb h1) h2 x m
  ·rcases cP.mp m with z | z
   ·rw [z];exact hb
   ·exact Ar hj h1 h2 x z
theorem lJ {room e:Int} {bs:List WN.Box} (h:∀ x∈bs,0<=x.s):∀ x∈cZ room e bs,0<=x.s/\e<x.l:=by
 unfold cZ
 intro x m
 have m:=vY.mp m
 have ha:∀ y∈(bs.filter fun b=>decide (e<b.l)).reverse,0<=y.s/\e<y.l:=fun y my=>by
  obtain ⟨m1,m2⟩:=rH.mp (vY.mp my)
  exact ⟨h y m1,of_decide_eq_true m2⟩
 generalize (bs.filter fun b=>decide (e<b.l)).reverse=cs at m ha
 cases cs with
 | nil=>exact nomatch m
 | cons b os=>exact Ar (P:=fun y=>0<=y.s/\e<y.l) (fun b o hb ho=>⟨by have:=hb.1;have:=ho.1;show 0<=b.s+o.s;lia,hb.2⟩) (ha b eN) (fun y my=>ha y (fB _ my)) x m
theorem oK {room e:Int} (hr:0<=room) {bs:List WN.Box} (h:∀ x∈bs,0<=x.s):cZ room e (cZ room e bs)=cZ room e bs:=by
 have ha:=lJ (room:=room) (e:=e) h
 have hn:WN.vG room 0 (cZ room e bs).reverse:=by
  unfold cZ
  rw [adz]
  exact WN.Ma hr fun x m=>h x (rH.mp (vY.mp m)).1
 generalize cZ room e bs=cs at ha hn ⊢
 unfold cZ
 rw [V4.mpr (fun x m=>decide_eq_true (ha x m).2),Vy hn,adz]
theorem aoj {ms:RG.Ls} (h:i<max ls.length ms.length):(RG.join ls ms)[i]? = some (RG.jn ls ms i):=by
 unfold RG.join RG.qT
 rw [gZ,adC h];rfl
theorem aiF (sd:∀ l∈ls,RG.Sd l):RG.join [] ls=ls:=by
 apply List.ext_getElem?
 intro i
 rcases ig i ls.length with h | h
 ·rw [aoj (by show i<max 0 ls.length;lia),fY h]
  unfold RG.jn
  rw [vU (l:=ls),fY h]
  show some (RG.srt ([]++ls[i]))=_
  rw [zu,RG.ahp (sd _ (Dq h))]
 ·rw [vo h,vo (by rw [RG.lD];show max 0 ls.length<=i;lia)]
theorem RP.left {f h:Rs} (p:RP g f h) (gf:Gr room f n) (e:ER g (R0 room)):ER h f:=by
 have st:=p.st
 have er:g.r=f.r:=by rw [e.r,gf.r];rfl
 rw [er,e.tn,e.ov,e.un,e.ls,show RG.join (R0 room).ls f.ls=f.ls from aiF gf.g.sd,show (R0 room).tn+f.tn=f.tn from mO _,show (R0 room).ov+f.ov=f.ov from mO _,show (R0 room).un+f.un=f.un from mO _] at st
 obtain ⟨e1,e2,e3,e4⟩:=(R6 0 f.tn f.ov f.un gf.g.sm).uniq st
 refine ⟨p.r.trans er,?_,e3,e4,e2,?_,?_,e1⟩
 ·rw [p.tt,e.tt];exact mO _
 ·rw [p.mi,e.mi];rfl
 ·rw [p.ma,e.ma];rfl
theorem aki {c:Tab} {k:Int} (h:k∉keys c):low c k=0:=by
 unfold low;rw [(rY c k).mpr h];rfl
theorem Vz:∀ {d c:Tab},(keys (c++d)).Nodup->mV c d=c++d
 | [],c,_=>by rw [xg,Dr]
 | p::d,c,h=>by
  have hk:p.1∉keys c:=fun m=>by
   unfold keys at h m
   rw [cC,zp] at h
   exact h.2.2 _ m _ (by rw [dW];exact eN) rfl
  rw [lZ,aki hk,mO,Bo hk,Vz (by rw [jx];exact h),jx];rfl
theorem aiG {c b:Tab} {cut:Int} (h:gj room c b cut) (l:c.length<=room):cut=0/\b=c:=by
 unfold gj at h
 rwa [if_pos l] at h
theorem FP.left {g h:Fq} (p:FP room g f h) (gf:Gf room f n) (e:EF g ⟨0,0,0,0,0,[]⟩):EF h f:=by
 obtain ⟨cut,ft,e1,e2⟩:=p
 obtain ⟨W,ok⟩:=gf.ok
 rw [e.c,Vz (by rw [zu];exact ok.nd),zu] at ft
 obtain ⟨z,ec⟩:=aiG ft ok.len
 exact ⟨by rw [e1,e.t];exact mO _,by rw [e2,e.l,z];show 0+f.l+0=f.l;lia,ec⟩
/-- what was settled stays so -/
noncomputable def Kw (x:KS):Prop:=(∀ b∈bx x.wi.ps,0<=b.s)/\cZ x.room (x.wi.c-x.reach) (bx x.wi.ps)=bx x.wi.ps
theorem aok (bs:List WN.Box):bs.map (shift 0)=bs:=by
 have:shift 0=id:=funext fun b=>by unfold shift;rw [XF,XF];rfl
 rw [this,List.map_id]
theorem abt:∀ (C D:List Int),(D++C).Nodup->C.foldl Sx.dd1 D=D++C
 | [],D,_=>by rw [Dr];rfl
 | x::C,D,h=>by
  have hx:x∉D:=fun m=>(zp.mp h).2.2 x m x eN rfl
  have e:Sx.dd1 D x=D++[x]:=by unfold Sx.dd1;simp [hx]
  rw [OD,e,abt C (D++[x]) (by rw [jx];exact h),jx];rfl
theorem aol (h:C.Nodup):un [] C=C:=abt C [] h
/-- behind a bare one it is what it was -/
theorem KP.bare (p:KP y x z) (k:Kh x n) (nd:x.di.C.Nodup) (w:Kw x) (e:Eqp y (K0 x.room x.reach x.span)):Eqp z x:=by
 have er:y.room=x.room:=e.room
 have eh:y.reach=x.reach:=e.reach
 have es:y.span=x.span:=e.span
 have pd:=p.di
 have pw:=p.wi
 have pc:=p.cm
 have pn:=p.wn
 rw [er] at pd pw pc pn
 rw [eh] at pw
 have ec:z.wi.c=x.wi.c:=by rw [pw.1,e.wi.c];exact mO _
 have eb:bx z.wi.ps=bx x.wi.ps:=by
  have h:=pw.2
  rw [<- pw.1,ec,e.wi.b,e.wi.c] at h
  rw [h]
  show cZ _ _ ([]++(bx x.wi.ps).map (shift 0))=_
  rw [zu,aok];exact w.2
 have eq:z.ba.q=x.ba.q:=by rw [p.ba,e.ba];show addQ Oj x.ba.q=_;unfold addQ Oj;rw [mO,mO,mO,mO]
 have eu:un y.di.C x.di.C=x.di.C:=by rw [e.di.C];exact aol nd
 have l:=pd.2.2
 rw [eu] at l
 exact ⟨p.room.trans er,p.reach.trans eh,p.span.trans es,pc.left k.cm e.cm,pn.left k.wn e.wn,p.up.left k.up e.up,p.dn.left k.dn e.dn,⟨ec,eb⟩,⟨by rw [pd.1,e.di.n];exact mO _,l.uniq k.dl,pd.2.1.trans eu⟩,eq⟩
/-- of the boxes that came -/
noncomputable def Kb (x:KS):Prop:=(∀ b∈bx x.wi.ps,0<=b.s)/\x.di.C.Nodup
theorem Kb.row (h:Kb x) (ok:r.ok) (s:SR r x x'):Kb x':=by
 have w1:=ok.w1
 unfold SR at s
 split at s
 ·refine ⟨?_,by rw [s.di.2.1];exact aj5 h.2⟩
  rw [s.wi.2]
  refine fun b m=>(lJ (fun y my=>?_) b m).1
  rcases cR.mp my with z | z
  ·exact h.1 y z
  ·rw [dh.mp z];show 0<=r.w;lia
 ·split at s
  ·refine ⟨?_,by rw [s.di];exact h.2⟩
   rw [s.wi.2]
   exact fun b m=>(lJ h.1 b m).1
  ·refine ⟨?_,by rw [s.di];exact h.2⟩
   rw [s.wi.2]
   exact fun b m=>(lJ h.1 b m).1
theorem KP.kb (p:KP x y z) (a:Kb x) (b:Kb y):Kb z/\(0<=(x.room:Int)->Kw z):=by
 have hs:∀ v∈bx x.wi.ps++(bx y.wi.ps).map (shift x.wi.c),0<=v.s:=fun v m=>by
  walk_at "i"
  ·exact a.1 v m
  ·obtain ⟨u,mu,rfl⟩:=kj.mp m
   exact b.1 u mu
 have h1:∀ v∈bx z.wi.ps,0<=v.s:=by rw [p.wi.2];exact fun v m=>(lJ hs v m).1
 refine ⟨⟨h1,by rw [p.di.2.1];exact ak5 _ _⟩,fun hr=>⟨h1,?_⟩⟩
 rw [p.room,p.reach,p.wi.1,p.wi.2]
 exact oK hr hs
theorem kb0 (e:Eqp y (K0 room reach span)):Kb y/\Kw y:=by
 unfold Kb Kw
 rw [e.wi.b,e.di.C]
 exact ⟨⟨fun b m=>(nomatch m),List.Pairwise.nil⟩,fun b m=>(nomatch m),rfl⟩
theorem Kw.row (h:Kb x) (ok:r.ok) (s:SR r x x'):Kw x':=by
 have hb:=h.row ok s
 refine ⟨hb.1,?_⟩
 have w1:=ok.w1
 have sb:=s.sb
 unfold SR at s
 split at s
 ·rw [sb.room,sb.reach,s.wi.1,s.wi.2]
  exact oK tb_g% fun y my=>by
   rcases cR.mp my with z | z
   ·exact h.1 y z
   ·rw [dh.mp z];show 0<=r.w;lia
 ·split at s
  ·rw [sb.room,sb.reach,s.wi.1,s.wi.2]
   exact oK tb_g% h.1
  ·rw [sb.room,sb.reach,s.wi.1,s.wi.2]
   exact oK tb_g% h.1
theorem Of.kb :∀ {rs:List R3} {x:KS},(∀ r∈rs,r.ok)->Of room reach span rs x->Kb x/\Kw x
 | [],_,_,a=>kb0 a
 | r::rs,_,h,⟨_,a,s⟩=>have b:=(Of.kb (fun q m=>h q (fB _ m)) a).1;⟨b.row (h r eN) s,Kw.row b (h r eN) s⟩
open MK
theorem Eqp.rf (x:KS):Eqp x x:=⟨rfl,rfl,rfl,⟨rfl,rfl,rfl⟩,⟨rfl,rfl,rfl⟩,⟨rfl,rfl,rfl,rfl,rfl,rfl,rfl,rfl⟩,⟨rfl,rfl,rfl,rfl,rfl,rfl,rfl,rfl⟩,⟨rfl,rfl⟩,⟨rfl,rfl,rfl⟩,rfl⟩
theorem Eqp.sy (e:Eqp x y):Eqp y x:=(Eqp.rf y).by e
theorem Eqp.tr (a:Eqp x y) (b:Eqp y z):Eqp x z:=a.by b.sy
/-- the block of level L at piece k -/
noncomputable def Bl (room:Nat) (reach span:Int) (ns:List Int):Nat->Nat->KS->Prop
 | 0,k,x=>∃ y,Of room reach span (m9 ns (2+k) (qj ns (2+k)).toNat) y/\Eqp x y
 | L+1,k,z=>∃ x y,Bl room reach span ns L k x/\Bl room reach span ns L (k+2 ^ L) y/\KP x y z
theorem Bl.eq :∀ {L k:Nat} {x y:KS},Bl room reach span ns L k x->Bl room reach span ns L k y->Eqp x y
 | 0,_,_,_,⟨_,a,e⟩,⟨_,b,d⟩=>(e.tr (a.eq b)).by d
 | _+1,_,_,_,⟨_,_,a,b,p⟩,⟨_,_,c,d,q⟩=>p.alike q (a.eq c) (b.eq d)
theorem Bl.of (h:Bl room reach span ns 0 k x) (e:Eqp z x):Bl room reach span ns 0 k z:=by
 obtain ⟨y,a,d⟩:=h
 exact ⟨y,a,e.tr d⟩
open MK
/-- how many rows a piece has at most -/
noncomputable def cap (ns:List Int):Nat:=if fM ns>18 then 1 else if fM ns>9 then 2 else 4
theorem adh (ns:List Int) (k:Int):(qj ns k).toNat<=cap ns:=by
 have h:=jo (ns:=ns) (k:=k) (salt:=30) (many:=5) (by decide)
 unfold qj cap
 by_cases h1:fM ns>18
 ·have h2:fM ns>9:=by lia
  rw [if_pos h1,if_pos h2,if_pos h1];lia
 ·rw [if_neg h1,if_neg h1]
  by_cases h2:fM ns>9
  ·rw [if_pos h2,if_pos h2];lia
  ·rw [if_neg h2,if_neg h2];lia
theorem Ln (h:(n:Int)<=fM ns):n*cap ns<=36:=by
 have:=rG ns
 unfold cap
 by_cases h1:fM ns>18
 ·rw [if_pos h1];lia
 ·rw [if_neg h1]
  by_cases h2:fM ns>9
  ·rw [if_pos h2];lia
  ·rw [if_neg h2];lia
/-- a block that was made behind H0 -/
structure B5 (A:Ad) (room:Nat) (reach span:Int) (ns:List Int) (L k:Nat) (H0 H:Hp) (x:KS):Prop where
 sm:Same H0 H
 kp:Kp A H x
 bl:Bl room reach span ns L k x
 kh:∃ n,n<=2 ^ L*cap ns/\Kh x n
 nb:∃ m,m+1<=2 ^ L*6/\Nb x m
 kb:Kb x
 kw:Kw x
 rm:x.room=room
 rc:x.reach=reach
 sn:x.span=span
 fx:∀ b∈x.all,H0 b=none
theorem Of.head :∀ {rs:List R3} {x:KS},Of room reach span rs x->x.room=room/\x.reach=reach/\x.span=span
 | [],_,a=>⟨a.room,a.reach,a.span⟩
 | _::_,_,⟨_,a,s⟩=>⟨s.sb.room.trans a.head.1,s.sb.reach.trans a.head.2.1,s.sb.span.trans a.head.2.2⟩
theorem VB (ns:List Int) (k:Int):∀ n,∀ r∈m9 ns k n,r.ok
 | 0,_,m=>nomatch m
 | n+1,r,m=>by
  rw [m9] at m
  rcases cP.mp m with rfl | m
  ·exact abr ns k n
  ·exact VB ns k n r m
theorem P5.b5 (h:P5 A room reach span (m9 ns (2+k) (qj ns (2+k)).toNat) H0 H x):B5 A room reach span ns 0 k H0 H x:=by
 have c:=adh ns (2+k)
 have kb:=Of.kb (VB ns (2+k) _) h.of
 have hd:=h.of.head
 have kh:=h.kh
 have nb:=h.nb
 rw [yK] at kh nb
 refine ⟨h.sm,h.kp,⟨x,h.of,Eqp.rf x⟩,⟨_,by rw [zQ,Jx];exact c,kh⟩,⟨_,?_,nb⟩,kb.1,kb.2,hd.1,hd.2.1,hd.2.2,h.fx⟩
 have:cap ns<=4:=by
  unfold cap
  split
  ·decide
  ·split <;> decide
 lia
/-- two halves can be poured -/
theorem B5.alk {H2:Hp} (h:B5 A room reach span ns L k H0 H x) (g:B5 A room reach span ns L l H1 H2 y) (many:((2 ^ (L+1):Nat):Int)<=fM ns):∃ n m,n+m<=2 ^ (L+1)*cap ns/\Alk x y n m:=by
 obtain ⟨n,hn,kn⟩:=h.kh
 obtain ⟨m,hm,km⟩:=g.kh
 have c:=Ln many
 have e:2 ^ (L+1)*cap ns=2 ^ L*cap ns+2 ^ L*cap ns:=by rw [kW,Xp,wM]
 exact ⟨n,m,by lia,g.rm.trans h.rm.symm,g.rc.trans h.rc.symm,g.sn.trans h.sn.symm,kn,km,by lia,h.kb.2,g.kb.2⟩
theorem B5.Af {H2 H3 H4 H5:Hp} {m:Nat} (h:B5 A room reach span ns L k H0 H1 x) (g:B5 A room reach span ns L (k+2 ^ L) H4 H2 y) (few:n+m<=2 ^ (L+1)*cap ns) (al:Alk x y n m) (kp:Kp A H3 z) (p:KP x y z) (fz:∀ b∈z.all,H5 b=none) (s:Same H5 H3):B5 A room reach span ns (L+1) k H5 H3 z:=by
 obtain ⟨i,hi,ni⟩:=h.nb
 obtain ⟨j,hj,nj⟩:=g.nb
 have kb:=p.kb h.kb g.kb
 have e:2 ^ (L+1)*6=2 ^ L*6+2 ^ L*6:=by rw [kW,Xp,wM]
 exact ⟨s,kp,⟨x,y,h.bl,g.bl,p⟩,⟨n+m,few,p.kh al⟩,⟨i+j+1,by lia,ni.Af p al nj⟩,kb.1,kb.2 tb_g%,p.room.trans h.rm,p.reach.trans h.rc,p.span.trans h.sn,fz⟩
open MK
noncomputable def Dk (K:aW) (A:Ad) (L:Nat):Sp:=fun vs H Q _=>∃ (a t:Addr) (ns:List Int) (k room:Nat) (reach span:Int),vs=[.ref a,.ref t,.int L,.int k]/\SqL K H a (ns.map V.int)/\(k:Int)+((2 ^ L:Nat):Int)<=fM ns/\H t=some (.tup [.int room,.int reach,.int span])/\2<=room/\room<=15/\room % 2=0/\Th reach/\Th span /\
 ∀ (x:KS) (H':Hp),B5 A room reach span ns L k H H' x->Q (.ref x.k) H'
theorem abu (T:Tx K mg A) {sp:Sp} {d:Nat} (hd:8<=d) (ih:cB P w K mg base CX0 d A.QJ A.tU Q15 sp) (hL:L=0\/∃ l,L=l+1/\sp=Dk K A l):cB P w K mg base CX0 (d+1) A.QJ A.tU Q15 (Dk K A L):=by
 k_dat (T.ah2.ok,Ao,s) "a"
 ·obtain ⟨a,t,ns,k,room,reach,span,rfl,_⟩:=h
  rfl
 ·obtain ⟨a,t,ns,k,room,reach,span,rfl,hS,hk,ht,r2,r15,ev,hre,hsp,q⟩:=h
  refine ⟨_,(ao (dO (aQ lN (pv 2) aB (aY _)) (aC (bQ (aF (alg T) (hr.mono tb_g%) T.F'51 aL (aj (pv 0) (aj (aK bA aB (pv 3)) (aj (pv 1) au)))))) cG)
   (ao (psS 4 Ao.nd (aK Q6 aB (aK uF (pv 2) aB)))
   (aC (bQ (aF (Vv T) (hr.mono tb_g%) T.acZ j8 (aj (aF ih (hr.mono tb_g%) T.ah2 aL (aj (pv 0) (aj (pv 1) (aj (aK uF (pv 2) aB) (aj (pv 3) au))))) (aj (aF ih (hr.mono tb_g%) T.ah2 aL (aj (pv 0) (aj (pv 1) (aj (aK uF (pv 2) aB) (aj (aK bA (pv 3) (pv 4)) au))))) au))))))),?_⟩
  have mb:=rG ns
  refine ⟨_,rfl,rfl,_,rfl,fH (fun h=>?_) (fun h=>?_)⟩
  ·have h:(L:Int)=0:=V.int.inj (of_decide_eq_true h)
   obtain rfl:L=0:=by lia
   exact ⟨_,rfl,_,rfl,_,_,rfl,rfl,_,rfl,a,t,ns,2+k,room,reach,span,rfl,hS,by lia,by lia,ht,r2,r15,ev,hre,hsp,fun x H' p=>q x H' p.b5⟩
  have h:¬ (L:Int)=0:=fun z=>h (decide_eq_true (congrArg V.int z))
  obtain ⟨l,rfl,rfl⟩:∃ l,L=l+1/\sp=Dk K A l:=hL.resolve_left tb_g%
  have p2:(2:Nat) ^ (l+1)=2 ^ l+2 ^ l:=by rw [kW,Xp]
  have e1:(((l+1:Nat):Int)-1)=(l:Int):=by lia
  have e2:(1:Int)*2 ^ l=((2 ^ l:Nat):Int):=by rw [JC,wN];rfl
  refine ⟨_,rfl,_,_,rfl,rfl,_,_,rfl,rfl,?_⟩
  dsimp only
  rw [e1]
  rw [zT,e2]
  have p0:(0:Int)<=((2 ^ l:Nat):Int):=aeT _
  have l5:l<=5:=by
   by_cases z:l<=5
   ·exact z
   ·have:2 ^ 6<=2 ^ l:=yR (by decide) tb_g%
    lia
  refine ⟨⟨by lia,by lia⟩,?_⟩
  refine ⟨_,rfl,_,rfl,_,rfl,_,_,rfl,rfl,_,rfl,a,t,ns,k,room,reach,span,by dsimp only;rw [e1];rfl,hS,(by rw [p2,zU] at hk;lia),ht,r2,r15,ev,hre,hsp,fun x H1 bx=>?_⟩
  refine ⟨_,rfl,_,rfl,_,rfl,_,_,rfl,rfl,_,rfl,_,rfl,_,_,rfl,rfl,a,t,ns,k+2 ^ l,room,reach,span,by dsimp only;rw [e1];rfl,bx.sm.seq hS,by lia,bx.sm _ _ ht,r2,r15,ev,hre,hsp,fun y H2 by'=>?_⟩
  obtain ⟨n,m,few,al⟩:=bx.alk by' tb_g%
  exact .inl ⟨x,y,n,m,rfl,bx.kp.same by'.sm,by'.kp,al,fun z H3 kz pz fz _ sz=>q z H3 (bx.Af by' few al kz pz (fun b m=>(bx.sm.trans by'.sm).free (fz b m)) (bx.sm.trans (by'.sm.trans sz)))⟩
theorem aiH (T:Tx K mg A):∀ L:Nat,cB P w K mg base CX0 (9+L) A.QJ A.tU Q15 (Dk K A L)
 | 0=>abu T (sp:=fun _ _ _ _=>False) (bh 8) (T.ah2.ok Ao (fun _ _ _ _ h=>h.elim) (fun _ _ _ _ _ _ _ _ _ h=>h.elim)) (.inl rfl)
 | l+1=>abu T (show 8<=9+l by lia) (aiH T l) (.inr ⟨l,rfl,rfl⟩)
noncomputable def aiI (K:aW) (A:Ad):Sp:=fun vs H Q E=>∃ L:Nat,L<=5/\Dk K A L vs H Q E
theorem VD (T:Tx K mg A):cB P w K mg base CX0 14 A.QJ A.tU Q15 (aiI K A) :=
 ⟨fun vs H Q E ⟨L,_,h⟩=>(aiH (P:=P) (w:=w) (base:=base) T L).len vs H Q E h,fun B outer s H args us vs Q E hr a b c ⟨L,hL,h⟩=>((aiH T L).mono (show 9+L<=14 by lia)).run B outer s H args us vs Q E hr a b c h⟩
open MK
/-- what a block is good for -/
structure Gb (room:Nat) (reach span:Int) (b:KS):Prop where
 kh:∃ n,Kh b n
 kb:Kb b
 kw:Kw b
 rm:b.room=room
 rc:b.reach=reach
 sn:b.span=span
theorem B5.gb (h:B5 A room reach span ns L k H0 H x):Gb room reach span x:=by
 obtain ⟨n,_,kn⟩:=h.kh
 exact ⟨⟨n,kn⟩,h.kb,h.kw,h.rm,h.rc,h.sn⟩
/-- poured behind a bare one,the last one first -/
noncomputable def Du (room:Nat) (reach span:Int) (ns:List Int):List (Nat × Nat)->KS->Prop
 | [],x=>Eqp x (K0 room reach span)
 | p::r,z=>∃ x b,Du room reach span ns r x/\Bl room reach span ns p.1 p.2 b/\Gb room reach span b/\KP x b z
/-- poured with no bare one -/
noncomputable def Dm (room:Nat) (reach span:Int) (ns:List Int):List (Nat × Nat)->KS->Prop
 | [],_=>False
 | [p],z=>Bl room reach span ns p.1 p.2 z
 | p::q::r,z=>∃ x b,Dm room reach span ns (q::r) x/\Bl room reach span ns p.1 p.2 b/\KP x b z
theorem Dm.du :∀ {ps:List (Nat × Nat)} {x y:KS},Dm room reach span ns ps x->Du room reach span ns ps y->Eqp y x
 | [],_,_,h,_=>h.elim
 | [p],x,y,h,⟨a,b,ha,hb,g,k⟩=>by
  obtain ⟨n,kn⟩:=g.kh
  have e:Eqp a (K0 b.room b.reach b.span):=by rw [g.rm,g.rc,g.sn];exact ha
  exact (k.bare kn g.kb.2 g.kw e).tr (Bl.eq hb h)
 | p::q::r,x,y,⟨u,v,hu,hv,k⟩,⟨a,b,ha,hb,_,k'⟩=>k'.alike k (Dm.du hu ha) (Bl.eq hb hv)
open MK
theorem Blk.ali {m:Nat} (a:Blk last l t) (b:Blk last m t) (h:l<m):False:=by
 refine a.top ⟨?_,?_⟩
 ·have:=SJ b.dv (show l+1<=m from h)
  rwa [lM] at this
 ·have e:(2:Int) ^ (l+1)<=2 ^ m:=by
   have:=yR (show 0<2 by decide) (show l+1<=m from h)
   exact_mod_cast this
  rw [lM] at e
  have:=b.fits
  lia
theorem Blk.uniq {m:Nat} (a:Blk last l t) (b:Blk last m t):l=m:=by
 rcases Xl l m with h | h | h
 ·exact (a.ali b h).elim
 ·exact h
 ·exact (b.ali a h).elim
theorem Blk.in (a:Blk last l t):t<last:=by
 have:=a.fits
 have:(0:Int)<2 ^ l:=Eo (by decide)
 lia
theorem Cov.take {f:Int} {bs cs:List (Nat × Int)} (a:Cov f last bs) (b:Cov f last cs) (ea:endOf f bs=last) (eb:endOf f cs=last):∀ i,bs.take i=cs.take i
 | 0=>by rw [O1,O1]
 | i+1=>by
  have ih:=Cov.take a b ea eb i
  rw [nZ,nZ,ih]
  cases e1:bs[i]? with
  | none =>
   cases e2:cs[i]? with
   | none=>rfl
   | some q =>
    have h:=b i q.1 q.2 e2
    rw [<- ih,qp (Im.mp e1),ea] at h
    have:=h.2.in
    lia
  | some p =>
   have h:=a i p.1 p.2 e1
   cases e2:cs[i]? with
   | none =>
    rw [ih,qp (Im.mp e2),eb] at h
    have:=h.2.in
    lia
   | some q =>
    have g:=b i q.1 q.2 e2
    rw [ih] at h
    have e:p.2=q.2:=h.1.trans g.1.symm
    have h2:=h.2
    rw [e] at h2
    have e3:p=q:=rQ (h2.uniq g.2) e
    rw [e3]
theorem Cov.uniq {f:Int} {bs cs:List (Nat × Int)} (a:Cov f last bs) (b:Cov f last cs) (ea:endOf f bs=last) (eb:endOf f cs=last):bs=cs:=by
 have h:=a.take b ea eb (max bs.length cs.length)
 rwa [qp tb_g%,qp tb_g%] at h
open MK
noncomputable def shf (aD aH aN iC dN:V):List (Str × V):=[("room",aD),("reach",aH),("span",aN),("many",iC),("blocks",dN)]
theorem VF (aD aH aN iC dN:V):(shf aD aH aN iC dN).lookup ("room" : Str)=some aD:=by rfl
theorem Om (aD aH aN iC dN:V):(shf aD aH aN iC dN).lookup ("reach" : Str)=some aH:=by rfl
theorem VG (aD aH aN iC dN:V):(shf aD aH aN iC dN).lookup ("span" : Str)=some aN:=by rfl
theorem ql (aD aH aN iC dN:V):(shf aD aH aN iC dN).lookup ("many" : Str)=some iC:=by rfl
theorem vh (aD aH aN iC dN:V):(shf aD aH aN iC dN).lookup ("blocks" : Str)=some dN:=by rfl
theorem akj (aD aH aN iC dN:V):bV "blocks" dN (bV "many" iC (bV "span" aN (bV "reach" aH (bV "room" aD []))))=shf aD aH aN iC dN:=by
 unfold shf
 walk_at "rec"
theorem SM (aD aH aN iC dN y:V):bV "many" y (shf aD aH aN iC dN)=shf aD aH aN y dN:=by
 unfold shf
 walk_at "rec"
theorem Lq {aD aH aN iC dN:V} (h:m∉[("room" : Str),("reach" : Str),("span" : Str),("many" : Str),("blocks" : Str)]):(shf aD aH aN iC dN).lookup m=none:=by
 simp only [cP,iW,or_false,not_or] at h
 obtain ⟨vf,CZ,Lf,aom,aiJ⟩:=h
 unfold shf
 rw [cH vf,cH CZ,cH Lf,cH aom,cH aiJ]
 rfl
noncomputable def aiK (A:Ad):Sp:=fun vs H Q _=>∃ (s ds:Addr) (room reach span:Int),vs=[.ref s,.int room,.int reach,.int span]/\H s=some (.ins A.iT ds []) /\
 ∀ (l:Addr) (H':Hp),H l=none->H' s=some (.ins A.iT ds (shf (.int room) (.int reach) (.int span) (.int 0) (.ref l)))->H' l=some (.lst [])->But s H H'->Q .non H'
theorem ok'52 (T:Tx K mg A):cB P w K mg base CX0 1 A.S8 A.uU Q13 (aiK A):=by
 k_dat (T.F'52.ok,Mr,s) "a"
 ·obtain ⟨s,ds,room,reach,span,rfl,_⟩:=h
  rfl
 ·obtain ⟨p,ds,room,reach,span,rfl,o,q⟩:=h
  refine ⟨_,(ao (aV (pv 0) (pv 1) rfl)
   (ao (aV (pv 0) (pv 2) rfl)
   (ao (aV (pv 0) (pv 3) rfl)
   (ao (aV (pv 0) aB rfl)
   (aC (aV (pv 0) (dR au) rfl)))))),?_⟩
  refine ⟨_,rfl,_,rfl,p,_,ds,[],rfl,o,T.fL,T.K1,(by show 0<1000;decide),?_⟩
  refine ⟨_,rfl,_,rfl,p,_,ds,_,rfl,ak,T.fL,T.K4,(by show 1<1000;decide),?_⟩
  refine ⟨_,rfl,_,rfl,p,_,ds,_,rfl,ak,T.fL,T.K5,(by show 2<1000;decide),?_⟩
  k_dat (ds,ak,T.fL,T.pW,3) "b"
  rw [cU,cU,cU]
  refine ⟨(by show 0<=sizeLine;decide),fun d hd=>?_⟩
  have npd:p≠d:=fun z=>by rw [<- z,ak] at hd;cases hd
  rw [aA (aU npd)] at hd
  refine ⟨_,rfl,p,_,ds,_,rfl,(by rw [aA npd];exact ak),T.fL,T.Al,(by show 4<1000;decide),?_⟩
  refine q d _ hd (Et ak (by rw [akj])) (by rw [aA (aU npd),ak]) fun b o e hb=>?_
  rw [aA hb,aA (aq e hd),aA hb]
  exact e
open MK
noncomputable def aon (A:Ad):Sp:=fun vs H Q _=>∃ (s ds:Addr) (room:Nat) (reach span:Int) (many bl:V),vs=[.ref s]/\H s=some (.ins A.iT ds (shf (.int room) (.int reach) (.int span) many bl))/\2<=room/\room<=64/\room % 2=0/\∀ (y:KS) (H':Hp),Kp A H' y->Eqp y (K0 room reach span)->(∀ b∈y.all,H b=none)->(∀ b∈y.ems,H b=none)->Same H H'->Q (.ref y.k) H'
theorem alj (T:Tx K mg A):cB P w K mg base CX0 5 A.YH A.uV ["self"] (aon A):=by
 k_dat (T.F'53.ok,Ms,s) "a"
 ·obtain ⟨s,ds,room,reach,span,many,bl,rfl,_⟩:=h
  rfl
 ·obtain ⟨p,ds,room,reach,span,many,bl,rfl,o,r2,r64,ev,q⟩:=h
  refine ⟨_,(aC (bQ (gA T.aa8 (abn T) tb_g% rfl T.pR T.b'32 .nil aL (aj (pf 0) (aj (pf 0) (aj (pf 0) au)))))),?_⟩
  refine ⟨_,rfl,rdF o T.fL T.K1 (VF ..) ⟨_,rfl,rdF o T.fL T.K4 (Om ..) ⟨_,rfl,rdF o T.fL T.K5 (VG ..) ?_⟩⟩⟩
  refine fun k dk n1 n2 n3=>⟨k,dk,room,reach,span,rfl,ak,r2,r64,ev,fun y H2 kp eqy ek Z6 aiE bt=>⟨rfl,?_⟩⟩
  have up2:Same H (upd (upd H dk (.own k)) k (.ins A.fZ dk [])):=fun b o e=>by rw [aA (aq e n1),aA (aq e n2)];exact e
  rw [<- ek]
  exact q y H2 kp eqy (fun b m=>by
   rcases jq.mp m with z | z
   ·rw [z,ek];exact n1
   ·exact up2.free (Z6 b z)) (fun b m=>up2.free (aiE b m)) fun b o e=>bt b o (up2 b o e) (aq e n1)
open MK
theorem Kp.live (h:Kp A H x):∀ b∈x.all,∃ C e fs,H b=some (.ins C e fs):=by
 intro b m
 unfold KS.all at m
 simp only [cP,iW,or_false] at m
 rcases m with rfl | rfl | rfl | rfl | rfl | rfl | rfl | rfl
 ·exact ⟨_,_,_,h.o⟩
 ·exact ⟨_,_,_,h.cm.o⟩
 ·exact ⟨_,_,_,h.wn.o⟩
 ·exact ⟨_,_,_,h.up.o⟩
 ·exact ⟨_,_,_,h.dn.o⟩
 ·exact ⟨_,_,_,h.wi.o⟩
 ·exact ⟨_,_,_,h.di.o⟩
 ·exact ⟨_,_,_,h.ba.o⟩
theorem Far.kp (f:Far A x.pts H H') (hy:Kp A H y) (d:∀ b∈y.all,b∉x.all):Kp A H' y :=
 (f.py y hy.pp fun b m m2=>d b (jq.mpr (.inr m)) (jq.mpr (.inr m2))).kp (f.pb _ _ hy.o fun m=>d _ (jq.mpr (.inl rfl)) (jq.mpr (.inr m))) hy.nk
theorem Kp.off (h:Kp A H x) (fz:∀ b∈z.all,H b=none):∀ b∈x.all,b∉z.all:=fun b m m2=>by
 obtain ⟨_,_,_,e⟩:=h.live b m
 have:=fz b m2
 rw [e] at this;cases this
theorem Kp.chg (h:Kp A H x) {L:Addr} {o:HO} (hL:H L=some (.lst (as.map V.ref))) (n:L∉x.ems):Kp A (L2.upd H L o) x:=by
 unfold KS.ems at n
 simp only [cP,cR,not_or] at n
 obtain ⟨n1,n2,n3,n4,n5,n6⟩:=n
 have kI:∀ {b C e:Addr} {fs:List (Str × V)},H b=some (.ins C e fs)->(L2.upd H L o) b=some (.ins C e fs):=fun e=>by rw [aA (iw e hL (by intro z;cases z))];exact e
 have kD:∀ {b:Addr} {kv:List (Key × V)},H b=some (.dK kv)->(L2.upd H L o) b=some (.dK kv):=fun e=>by rw [aA (iw e hL (by intro z;cases z))];exact e
 have kT:∀ {b:Addr} {vs:List V},H b=some (.tup vs)->(L2.upd H L o) b=some (.tup vs):=fun e=>by rw [aA (iw e hL (by intro z;cases z))];exact e
 have kL:∀ {b:Addr} {vs:List V},L≠b->H b=some (.lst vs)->(L2.upd H L o) b=some (.lst vs):=fun m e=>by rw [aA (aU m)];exact e
 have rl:∀ {p:Addr} {y:Rs},L≠y.a->L∉y.bs->RnX A H p y->RnX A (L2.upd H L o) p y:=fun {p y} m1 m2 R=>⟨kI R.o,kL m1 R.l.o,R.l.n,fun i b l e1 e2=>kL (fun z=>m2 (by rw [z];exact List.mem_of_getElem? e1)) (R.l.e i b l e1 e2),R.l.x⟩
 refine ⟨kI h.o,⟨kI h.cm.o,kD h.cm.d⟩,⟨kI h.wn.o,kD h.wn.d⟩,rl n1 n5 h.up,rl n2 n6 h.dn,⟨kI h.wi.o,kL n3 h.wi.b.l,fun z m=>kT (h.wi.b.t z m)⟩,⟨kI h.di.o,kL n4 h.di.l⟩,⟨kI h.ba.o,kL (fun z=>?_) h.ba.l⟩,h.nd⟩
 have e:=h.ba.l
 rw [<- z,hL] at e
 cases as with
 | nil=>cases e
 | cons a r=>cases e
theorem Kp.emL (h:Kp A H x) (n:H c=none):c∉x.ems:=fun m=>by
 have rl:∀ {p:Addr} {y:Rs},RnX A H p y->c≠y.a/\c∉y.bs:=fun {p y} R=>by
  refine ⟨fun z=>?_,fun m=>?_⟩
  ·have o:=R.l.o
   rw [<- z,n] at o;cases o
  ·obtain ⟨i,hi⟩:=Io m
   have li:i<y.ls.length:=by rw [<- R.l.n];exact (gH.mp hi).1
   have:=R.l.e i c _ hi (fY li)
   rw [n] at this;cases this
 unfold KS.ems at m
 rcases cP.mp m with z | m
 ·exact (rl h.up).1 z
 rcases cP.mp m with z | m
 ·exact (rl h.dn).1 z
 rcases cP.mp m with z | m
 ·have o:=h.wi.b.l
  rw [<- z,n] at o;cases o
 rcases cP.mp m with z | m
 ·have o:=h.di.l
  rw [<- z,n] at o;cases o
 walk_at "i"
 ·exact (rl h.up).2 m
 ·exact (rl h.dn).2 m
structure Gs (A:Ad) (s l:Addr) (as:List Addr) (room:Nat) (reach span:Int) (ns:List Int) (L k:Nat) (H:Hp) (x:KS):Prop where
 b:B5 A room reach span ns L k (fun _=>none) H x
 s:s∉x.all
 l:l∉x.ems
 r:∀ c∈as,c∉x.ems
/-- nothing but the shelf's own has changed -/
structure Fr (A:Ad) (s l:Addr) (as:List Addr) (H H':Hp):Prop where
 pb:∀ b o,H b=some o->b≠s->b≠l->b∉as->H' b=some o
 py:∀ y:KS,Kp A H y->s∉y.all->l∉y.ems->(∀ c∈as,c∉y.ems)->Kp A H' y
noncomputable def On (rows:List (List KS)) (x:KS):Prop:=∃ r∈rows,x∈r
structure Sf (A:Ad) (s ds l:Addr) (as:List Addr) (room:Nat) (reach span:Int) (ns:List Int) (cnt:Nat->Nat) (many:Int) (rows:List (List KS)) (H:Hp):Prop where
 o:H s=some (.ins A.iT ds (shf (.int room) (.int reach) (.int span) (.int many) (.ref l)))
 ll:H l=some (.lst (as.map V.ref))
 n:as.length=rows.length
 nd:(l::as).Nodup
 rw:∀ (i:Nat) (a:Addr) (r:List KS),as[i]? = some a->rows[i]? = some r->H a=some (.lst ((r.map KS.k).map V.ref))/\r.length=cnt i
 bk:∀ (i:Nat) (r:List KS),rows[i]? = some r->∀ (j:Nat) (x:KS),r[j]? = some x->Gs A s l as room reach span ns i (j*2 ^ i) H x
 ct:∀ i,rows.length<=i->cnt i=0
section
variable {s l:Addr} {bs:List Addr} {cnt aac:Nat->Nat}
theorem Gs.at (g:Gs A s l as room reach span ns L k H x) (k1:Kp A H' x):Gs A s l as room reach span ns L k H' x :=
 ⟨⟨(fun _ _ e=>nomatch e),k1,g.b.bl,g.b.kh,g.b.nb,g.b.kb,g.b.kw,g.b.rm,g.b.rc,g.b.sn,fun _ _=>rfl⟩,g.s,g.l,g.r⟩
theorem Gs.grow (g:Gs A s l as room reach span ns L k H x) (n:H c=none):Gs A s l (as++[c]) room reach span ns L k H x :=
 ⟨g.b,g.s,g.l,fun d m=>(cR.mp m).elim (g.r d) fun z=>by rw [dh.mp z];exact g.b.kp.emL n⟩
theorem Fr.same (q:Same H H'):Fr A s l as H H':=⟨fun b o e _ _ _=>q b o e,fun y h _ _ _=>h.same q⟩
theorem Fr.trans (f:Fr A s l as H H1) (g:Fr A s l bs H1 H') (sub:∀ c∈bs,c∈as\/H c=none):Fr A s l as H H' :=
 ⟨fun b o e n1 n2 n3=>g.pb b o (f.pb b o e n1 n2 n3) n1 n2 fun m=>(sub b m).elim n3 (fun z=>by rw [e] at z;cases z),
  fun y h n1 n2 n3=>g.py y (f.py y h n1 n2 n3) n1 n2 fun c m=>(sub c m).elim (n3 c) fun z=>h.emL z⟩
theorem Fr.lst {c:Addr} {cs:List Addr} {o:HO} (hc:H c=some (.lst (cs.map V.ref))) (m:c=l\/c∈as):Fr A s l as H (upd H c o) :=
 ⟨fun b o' e _ n2 n3=>by
  rw [aA (fun z=>m.elim (fun y=>n2 (z.trans y)) fun y=>n3 (by rw [z];exact y))];exact e,
  fun y h _ n2 n3=>h.chg hc (m.elim (fun z=>by rw [z];exact n2) (n3 c))⟩
theorem Sf.on (h:Sf A s ds l as room reach span ns cnt many rows H) (m:On rows x):∃ L k,Gs A s l as room reach span ns L k H x:=by
 obtain ⟨r,m1,m2⟩:=m
 obtain ⟨i,hi⟩:=Io m1
 obtain ⟨j,hj⟩:=Io m2
 exact ⟨_,_,h.bk i r hi j x hj⟩
theorem aoo {r:List KS} (h:rows[i]? = some r) (h2:r[j]? = some x):On rows x:=⟨r,List.mem_of_getElem? h,List.mem_of_getElem? h2⟩
theorem Sf.same (h:Sf A s ds l as room reach span ns cnt many rows H) (q:Same H H'):Sf A s ds l as room reach span ns cnt many rows H' :=
 ⟨q _ _ h.o,q _ _ h.ll,h.n,h.nd,fun i a r e1 e2=>⟨q _ _ (h.rw i a r e1 e2).1,(h.rw i a r e1 e2).2⟩,fun i r e j x e2=>(h.bk i r e j x e2).at ((h.bk i r e j x e2).b.kp.same q),h.ct⟩
theorem Sf.far (h:Sf A s ds l as room reach span ns cnt many rows H) (hy:Kp A H y) (f:Far A y.pts H H') (hs:s∉y.all) (ap:∀ x,On rows x->∀ b∈x.all,b∉y.all):Sf A s ds l as room reach span ns cnt many rows H':=by
 have keep:∀ {b:Addr} {vs:List V},H b=some (.lst vs)->H' b=some (.lst vs):=fun {b vs} e=>f.pb _ _ e fun m=>by
  obtain ⟨C,d,fs,e2⟩:=hy.live b (jq.mpr (.inr m))
  rw [e] at e2;cases e2
 exact ⟨f.pb _ _ h.o fun m=>hs (jq.mpr (.inr m)),keep h.ll,h.n,h.nd,fun i a r e1 e2=>⟨keep (h.rw i a r e1 e2).1,(h.rw i a r e1 e2).2⟩,fun i r e j x e2=>(h.bk i r e j x e2).at (f.kp (h.bk i r e j x e2).b.kp (ap x (aoo e e2))),h.ct⟩
theorem Sf.cn (h:Sf A s ds l as room reach span ns cnt many rows H) (e:∀ i,aac i=cnt i):Sf A s ds l as room reach span ns aac many rows H:=by
 have:aac=cnt:=funext e
 rw [this];exact h
/-- one more block -/
theorem Sf.push (h:Sf A s ds l as room reach span ns cnt many rows H) {a:Addr} {r:List KS} (ea:as[L]? = some a) (er:rows[L]? = some r) (g:Gs A s l as room reach span ns L (r.length*2 ^ L) H z) (c1:aac L=r.length+1) (c2:∀ i,i≠L->aac i=cnt i) :
  Sf A s ds l as room reach span ns aac many (rows.set L (r++[z])) (upd H a (.lst (((r++[z]).map KS.k).map V.ref))):=by
 have ha:=(h.rw L a r ea er).1
 have ma:=List.mem_of_getElem? ea
 have li:=(gH.mp er).1
 have nd:=g8.mp h.nd
 refine ⟨by rw [aA (iw h.o ha (by intro z;cases z))];exact h.o,by rw [aA (fun z=>nd.1 (by rw [z];exact ma))];exact h.ll,by rw [jz];exact h.n,h.nd,fun i b r' e1 e2=>?_,fun i r' e j x e2=>?_,fun i hi=>?_⟩
 ·by_cases hi:i=L
  ·subst hi
   rw [Gi li] at e2
   rw [ea] at e1
   obtain rfl:=bW e1
   obtain rfl:=bW e2
   exact ⟨ak,by rw [c1,cV];rfl⟩
  ·rw [Av (aU hi)] at e2
   have:=h.rw i b r' e1 e2
   have nb:b≠a:=fun z=>hi ((List.getElem?_inj (gH.mp e1).1 nd.2).mp (e1.trans (by rw [z,ea])))
   rw [aA nb,c2 i hi];exact this
 ·have up:∀ {i k:Nat} {x:KS},Gs A s l as room reach span ns i k H x->Gs A s l as room reach span ns i k (upd H a (.lst (((r++[z]).map KS.k).map V.ref))) x:=fun g=>g.at (g.b.kp.chg ha (g.r a ma))
  by_cases hi:i=L
  ·subst hi
   rw [Gi li] at e
   obtain rfl:=bW e
   have lj:=(gH.mp e2).1
   rw [cV] at lj
   rcases (show j<r.length\/j=r.length by simp at lj;lia) with z' | z'
   ·rw [qm z'] at e2
    exact up (h.bk i r er j x e2)
   ·subst z'
    rw [vm (bh _),wJ] at e2
    obtain rfl:z=x:=bW e2
    exact up g
  ·rw [Av (aU hi)] at e
   exact up (h.bk i r' e j x e2)
 ·rw [jz] at hi
  rw [c2 i tb_g%];exact h.ct i hi
/-- one more row -/
theorem Sf.grow (h:Sf A s ds l as room reach span ns cnt many rows H) (hc:H c=none) :
  Sf A s ds l (as++[c]) room reach span ns cnt many (rows++[[]]) (upd (upd H c (.lst [])) l (.lst ((as++[c]).map V.ref))):=by
 have s1:=Same.new (o:=.lst []) hc
 have lc:l≠c:=aq h.ll hc
 have hl:=s1 _ _ h.ll
 have nd:=g8.mp h.nd
 have nc:c∉as:=fun m=>by
  obtain ⟨i,hi⟩:=Io m
  have li:=(gH.mp hi).1
  have:=(h.rw i c _ hi (fY (by rw [<- h.n];exact li))).1
  rw [hc] at this;cases this
 refine ⟨by rw [aA (iw (s1 _ _ h.o) hl (by intro z;cases z))];exact s1 _ _ h.o,ak,by simp [h.n],?_,fun i b r e1 e2=>?_,fun i r e j x e2=>?_,fun i hi=>?_⟩
 ·refine g8.mpr ⟨fun m=>?_,zp.mpr ⟨nd.2,g8.mpr ⟨iW,oR⟩,fun a ma b mb=>?_⟩⟩
  ·walk_at "i"
   ·exact nd.1 m
   ·exact lc (dh.mp m)
  ·rw [dh.mp mb];exact fun z=>nc (by rw [<- z];exact ma)
 ·have li:=(gH.mp e1).1
  rw [cV] at li
  rcases (show i<as.length\/i=as.length by simp at li;lia) with z | z
  ·rw [qm z] at e1
   rw [qm (by rw [<- h.n];exact z)] at e2
   have:=h.rw i b r e1 e2
   rw [aA (fun z=>nd.1 (by rw [<- z];exact List.mem_of_getElem? e1))]
   exact ⟨s1 _ _ this.1,this.2⟩
  ·subst z
   rw [vm (bh _),wJ] at e1
   rw [h.n,vm (bh _),wJ] at e2
   obtain rfl:c=b:=bW e1
   obtain rfl:[]=r:=bW e2
   exact ⟨by rw [aA (aU lc)];exact ak,by rw [h.ct _ (Ju h.n.symm)];rfl⟩
 ·have up:∀ {i k:Nat} {x:KS},Gs A s l as room reach span ns i k H x->Gs A s l (as++[c]) room reach span ns i k (upd (upd H c (.lst [])) l (.lst ((as++[c]).map V.ref))) x:=fun g=>(g.grow hc).at ((g.b.kp.same s1).chg hl g.l)
  have li:=(gH.mp e).1
  rw [cV] at li
  rcases (show i<rows.length\/i=rows.length by simp at li;lia) with z | z
  ·rw [qm z] at e
   exact up (h.bk i r e j x e2)
  ·subst z
   rw [vm (bh _),wJ] at e
   obtain rfl:[]=r:=bW e
   cases e2
 ·rw [cV] at hi
  exact h.ct i (by simp at hi;lia)
end
open MK
noncomputable def Dl (n L:Nat):Nat->Nat:=fun i=>if i<L then (n+1) / 2 ^ i else n / 2 ^ i
theorem aiL {c p:Nat} (h:n+1=(c+1)*p):n / p=c/\(n+1) / p=c+1:=by
 have hp:0<p:=aey fun z=>by rw [z,Jv] at h;lia
 rw [wM,Jx] at h
 refine ⟨aex tb_g% (by rw [wK];lia),aex (by rw [wK];lia) (by rw [wK,wK];lia)⟩
theorem aiM {c:Nat} (h:n+1=(c+1)*2 ^ L) (ev:¬ (c+1) % 2=0) (i:Nat):(n+1) / 2 ^ i=Dl n (L+1) i:=by
 unfold Dl
 by_cases hi:i<L+1
 ·rw [if_pos hi]
 ·rw [if_neg hi]
  obtain ⟨j,rfl⟩:∃ j,i=L+(1+j):=⟨i-(L+1),by lia⟩
  obtain ⟨h1,h2⟩:=aiL h
  rw [aeG,<- Qe,<- Qe,h1,h2,aeG,aeE,<- Qe,<- Qe]
  congr 1;lia
theorem aop {c:Nat} (h:n+1=(c+1)*2 ^ L):Dl n L L=c:=by
 unfold Dl;rw [if_neg (nF L)];exact (aiL h).1
theorem aiN {c:Nat} (h:n+1=(c+1)*2 ^ L):Dl n (L+1) L=c+1:=by
 unfold Dl;rw [if_pos (wI L)];exact (aiL h).2
theorem aoq (h:i≠L):Dl n (L+1) i=Dl n L i:=by
 unfold Dl
 by_cases hi:i<L
 ·rw [if_pos hi,if_pos tb_g%]
 ·rw [if_neg hi,if_neg tb_g%]
theorem Sf.live {s l:Addr} {cnt:Nat->Nat} (h:Sf A s ds l as room reach span ns cnt many rows H) (m:c∈as):H c≠none:=fun z=>by
 obtain ⟨i,hi⟩:=Io m
 rw [(h.rw i c _ hi (fY (by rw [<- h.n];exact (gH.mp hi).1))).1] at z
 cases z
theorem Sf.fresh {s l:Addr} {w:KS} {cnt:Nat->Nat} (h:Sf A s ds l as room reach span ns cnt many rows H) (b:B5 A room reach span ns L k (fun _=>none) H' w) (fw:∀ b∈w.all,H b=none) (ew:∀ b∈w.ems,H b=none):Gs A s l as room reach span ns L k H' w:=by
 refine ⟨b,fun m=>?_,fun m=>?_,fun c mc m=>?_⟩
 ·have:=fw s m;rw [h.o] at this;cases this
 ·have:=ew l m;rw [h.ll] at this;cases this
 ·exact h.live mc (ew c m)
/-- on its way: what has come to the shelf since H -/
structure Sk (A:Ad) (s ds l:Addr) (as:List Addr) (room:Nat) (reach span:Int) (ns:List Int) (many:Int) (rows:List (List KS)) (z0:KS) (H G:Hp) (as1:List Addr) (fG:List (List KS)) (cnt:Nat->Nat):Prop where
 sf:Sf A s ds l as1 room reach span ns cnt many fG G
 fr:Fr A s l as H G
 sa:∀ c∈as1,c∈as\/H c=none
 su:∀ c∈as,c∈as1
 sx:∀ x,On fG x->On rows x\/x=z0\/∀ b∈x.all,H b=none
theorem Sk.free {s l:Addr} {as1:List Addr} {fG:List (List KS)} {z0:KS} {cnt:Nat->Nat} (h:Sk A s ds l as room reach span ns many rows z0 H G as1 fG cnt) (n:G c=none):H c=none:=by
 cases e:H c with
 | none=>rfl
 | some o =>
  have:=h.fr.pb c o e (fun z=>by rw [z,h.sf.o] at n;cases n) (fun z=>by rw [z,h.sf.ll] at n;cases n) fun m=>h.sf.live (h.su c m) n
  rw [n] at this;cases this
noncomputable def akk (A:Ad):Sp:=fun vs H Q _=>∃ (s ds l:Addr) (as:List Addr) (room:Nat) (reach span:Int) (ns:List Int) (n:Nat) (many:Int) (rows:List (List KS)) (z:KS),vs=[.ref s,.ref z.k]/\Sf A s ds l as room reach span ns (fun i=>n / 2 ^ i) many rows H/\Gs A s l as room reach span ns 0 n H z/\(n:Int)+1<=fM ns /\
 ∀ (as1:List Addr) (fG:List (List KS)) (G:Hp),Sk A s ds l as room reach span ns many rows z H G as1 fG (fun i=>(n+1) / 2 ^ i)->Q .non G
noncomputable def aor (σ:St) (_:Hp):Nat:=match σ with
 | [_,_,some (.ref _),some (.int j),_]=>(10-j).toNat+1
 | _=>0
theorem akl (h:On (rows++[[]]) x):On rows x:=by
 obtain ⟨r,m,mx⟩:=h
 walk_at "i"
 ·exact ⟨r,m,mx⟩
 ·rw [dh.mp m] at mx;cases mx
theorem akm {r:List KS} (er:rows[L]? = some r) (h:On (rows.set L (r++[z])) x):On rows x\/x=z:=by
 obtain ⟨r',m,mx⟩:=h
 rcases vV m with m | rfl
 ·exact .inl ⟨r',m,mx⟩
 ·rcases cR.mp mx with m | m
  ·exact .inl ⟨r,List.mem_of_getElem? er,m⟩
  ·exact .inr (dh.mp m)
theorem akn {xs:List α} {u v:α} (h:xs[xs.length-1]? = some u) (h0:0<xs.length):atI (xs++[v]) (-2)=some u:=by
 have e:ixN (xs++[v]).length (-2)=some (xs.length-1):=by
  unfold ixN
  rw [if_neg (by decide),cV,if_pos (by simp;lia)]
  congr 1;simp;lia
 unfold atI;rw [e]
 show (xs++[v])[xs.length-1]? = _
 rw [qm tb_g%];exact h
theorem ok'54 (T:Tx K mg A):cB P w K mg base CX0 7 A.YJ A.sU ["self","piece"] (akk A):=by
 k_dat (T.F'54.ok,gU,s0) "a"
 ·obtain ⟨s,ds,l,as,room,reach,span,ns,n,many,rows,z,rfl,_⟩:=h
  rfl
 ·obtain ⟨s,ds,l,as,room,reach,span,ns,n,many,rows,z0,rfl,hS,hz,hn,q⟩:=h
  have mb:=rG ns
  refine ⟨_,(ao (psS 2 gU.nd (pv 1))
   (ao (psS 3 gU.nd aB)
   (aC (jD jB (aQ Hy (pv 2) lW (aY _)) (ao (dO (aQ lN (pv 3) (bO dJ (by rfl) T.mZ mK (aj (pf 0) au)) (aY _)) (aC (bC (jG mL sY sZ d8 (pf 0) (aj (dR au) au)))) cG)
   (ao (psS 4 gU.nd (dw (ixG (cN hr)) (pf 0) (pv 3) (fun _ _=>rfl)))
   (ao (bC (jG mL sY sZ d8 (pv 4) (aj (pv 2) au)))
   (ao (psS 2 gU.nd (T5 (aQ lN (aK iU (bO dJ (by rfl) T.mZ mK (aj (pv 4) au)) aB) aB (aY _)) (aF (Vv T) tb_g% T.acZ j8 (aj (dw (ixG (cN hr)) (pv 4) (aaA Q7 aB) (fun _ _=>rfl)) (aj (dw (ixG (cN hr)) (pv 4) (aaA Q7 aB) (fun _ _=>rfl)) au))) lW))
   (aC (psS 3 gU.nd (aK bA (pv 3) aB))))))))))),?_⟩
  refine ⟨_,rfl,?_⟩
  show z8 _ _ _ [some (.ref s),some (.ref z0.k),some (.ref z0.k),some (.int 0),none] H
  refine jE (fun σ G=>∃ (L:Nat) (as1:List Addr) (fG:List (List KS)) (bv:V) (y4:Option V),σ=[some (.ref s),some (.ref z0.k),some bv,some (.int L),y4] /\
    ((∃ (z:KS) (c:Nat),bv = .ref z.k/\Sk A s ds l as room reach span ns many rows z0 H G as1 fG (Dl n L)/\L<=fG.length/\n+1=(c+1)*2 ^ L/\Gs A s l as1 room reach span ns L (c*2 ^ L) G z/\(z=z0\/∀ b∈z.all,H b=none))
     \/ (bv = .non/\Sk A s ds l as room reach span ns many rows z0 H G as1 fG (fun i=>(n+1) / 2 ^ i)))) aor
   ⟨0,as,rows,.ref z0.k,none,rfl,.inl ⟨z0,n,rfl,⟨hS.cn fun i=>by unfold Dl;rw [if_neg (Xm i)],Fr.same (Same.refl _),fun c m=>.inl m,fun c m=>m,fun x m=>.inl m⟩,dF _,by rw [zQ,Xo],by rw [zQ,Xo];exact hz,.inl rfl⟩⟩ ?_
   (fun σ H Q Q' hq h=>fj (yx (fun _ _ _ _ _ hq h=>⟨h.1,hq _ _ h.2⟩) (bU 2) (mC _)) σ H Q Q' hq h)
  rintro σ G ⟨L,as1,fG,bv,y4,rfl,h⟩
  rcases h with ⟨z,c,rfl,hk,hL,hc,gz,oz⟩ | ⟨rfl,hk⟩
  ·refine ⟨_,rfl,rfl,_,rfl,oG ?_⟩
   have L5:L<=6:=by
    rcases ig 6 L with h | h
    ·have:2 ^ 7<=2 ^ L:=yR (by decide) h
     have:1*2 ^ L<=(c+1)*2 ^ L:=wH _ tb_g%
     lia
    ·exact h
   refine sq fun R hR=>?_
   have key:∀ (G2:Hp) (as2:List Addr) (uf:List (List KS)),Sk A s ds l as room reach span ns many rows z0 H G2 as2 uf (Dl n L)->L<uf.length->Gs A s l as2 room reach span ns L (c*2 ^ L) G2 z->R [some (.ref s),some (.ref z0.k),some (.ref z.k),some (.int L),y4] G2:=by
    intro G2 as2 uf hk2 hL2 gz2
    refine hR _ _ ?_
    have hf:=hk2.sf
    obtain ⟨a,ea⟩:∃ a,as2[L]? = some a:=⟨_,fY (by rw [hf.n];exact hL2)⟩
    obtain ⟨r,er⟩:∃ r,uf[L]? = some r:=⟨_,fY hL2⟩
    obtain ⟨ha,lr⟩:=hf.rw L a r ea er
    rw [aop hc] at lr
    refine ⟨_,rfl,rdF hf.o T.fL T.Al (vh ..) ⟨_,rfl,lO (.inl (.inl hf.ll)) (v:=.ref a) (yq (by rw [gZ,ea];rfl)) ?_⟩⟩
    refine ⟨_,rfl,.inl ⟨rfl,_,.inl (.inl ha)⟩,_,rfl,a,_,_,rfl,rfl,ha,bB (by rw [aZ,aZ,lr];have:1*(c+1)<=2 ^ L*(c+1):=wH _ (Nat.one_le_two_pow);rw [rM (2 ^ L)] at this;lia),?_⟩
    rw [show (r.map KS.k).map V.ref++[V.ref z.k]=((r++[z]).map KS.k).map V.ref by rw [cC,cC];rfl]
    have S3:=hf.push (aac:=Dl n (L+1)) ea er (by rw [lr];exact gz2) (by rw [lr];exact aiN hc) (fun i hi=>aoq hi)
    have F3:Fr A s l as H (upd G2 a (.lst (((r++[z]).map KS.k).map V.ref))):=hk2.fr.trans (Fr.lst (by rw [ha]) (.inr (List.mem_of_getElem? ea))) hk2.sa
    have h3:(upd G2 a (.lst (((r++[z]).map KS.k).map V.ref))) a=some (.lst (((r++[z]).map KS.k).map V.ref)):=ak
    have kz3:Kp A (upd G2 a (.lst (((r++[z]).map KS.k).map V.ref))) z:=gz2.b.kp.chg ha (gz2.r a (List.mem_of_getElem? ea))
    generalize upd G2 a (.lst (((r++[z]).map KS.k).map V.ref))=G3 at S3 F3 h3 kz3 ⊢
    have X3:∀ x,On (uf.set L (r++[z])) x->On rows x\/x=z0\/∀ b∈x.all,H b=none:=fun x m=>by
     rcases akm er m with m | rfl
     ·exact hk2.sx x m
     ·exact .inr oz
    have K3:Sk A s ds l as room reach span ns many rows z0 H G3 as2 (uf.set L (r++[z])) (Dl n (L+1)):=⟨S3,F3,hk2.sa,hk2.su,X3⟩
    have L3:L+1<=(uf.set L (r++[z])).length:=by rw [jz];exact hL2
    refine ⟨_,rfl,jw (.inl (.inl h3)) ⟨_,_,rfl,rfl,(by show (0:Int)<2;decide),rfl,_,rfl,fH (fun h=>?_) (fun h=>?_)⟩⟩
    ·have h:=V.int.inj (of_decide_eq_true h)
     rw [aZ,aZ,cV,lr] at h
     have h:(c+1) % 2=0:=by
      have h:(((c+1:Nat)):Int) % 2=0:=h
      lia
     obtain ⟨e,rfl⟩:∃ e,c=2*e+1:=⟨c / 2,by lia⟩
     obtain ⟨x,ex⟩:∃ x,r[2*e]? = some x:=⟨_,fY tb_g%⟩
     have gx:=S3.bk L (r++[z]) (Gi hL2) (2*e) x (by rw [qm tb_g%];exact ex)
     have ez:(2*e+1)*2 ^ L=2*e*2 ^ L+2 ^ L:=by rw [wM,Jx]
     have gz3:=gz2.at kz3
     rw [ez] at gz3
     have p2:(2:Nat) ^ (L+1)=2*2 ^ L:=by rw [kW,rM]
     have hc2:n+1=(e+1)*2 ^ (L+1):=by
      rw [hc,p2,<- o8];congr 1;lia
     obtain ⟨n1,n2,few,al⟩:=gx.b.alk gz3.b (by
      have:1*2 ^ (L+1)<=(e+1)*2 ^ (L+1):=wH _ tb_g%
      lia)
     refine ⟨_,rfl,_,rfl,lO (.inl (.inl h3)) (v:=.ref x.k) ?_ ⟨_,rfl,_,rfl,lO (.inl (.inl h3)) (v:=.ref z.k) ?_ (.inl ⟨x,z,n1,n2,rfl,gx.b.kp,kz3,al,fun w G4 kw pw fw ew sw=>?_⟩)⟩⟩
     ·rw [cC,cC]
      refine akn ?_ (by rw [aZ,aZ];lia)
      rw [aZ,aZ,lr,gZ,gZ,show 2*e+1-1=2*e from rfl,ex];rfl
     ·rw [cC,cC]
      exact agQ _ _
     have bw:B5 A room reach span ns (L+1) (e*2 ^ (L+1)) (fun _=>none) G4 w:=by
      have e2:e*2 ^ (L+1)=2*e*2 ^ L:=by rw [p2,<- o8,rM e 2]
      rw [e2]
      exact gx.b.Af gz3.b few al kw pw (fun _ _=>rfl) (fun _ _ e=>nomatch e)
     refine ⟨_,rfl,_,_,rfl,rfl,⟨L+1,as2,uf.set L (r++[z]),.ref w.k,some (.ref a),?_,.inl ⟨w,e,rfl,⟨S3.same sw,F3.trans (Fr.same sw) (fun c m=>.inl m),hk2.sa,hk2.su,X3⟩,L3,hc2,S3.fresh bw fw ew,.inr fun b m=>?_⟩⟩,?_⟩
     ·rw [show ((L+1:Nat):Int)=(L:Int)+1 by lia];rfl
     ·exact K3.free (fw b m)
     ·show (10-((L:Int)+1)).toNat+1<(10-(L:Int)).toNat+1
      lia
    ·have h:¬ (c+1) % 2=0:=fun z=>h (decide_eq_true (congrArg V.int (by
      rw [aZ,aZ,cV,lr]
      show (((c+1:Nat)):Int) % 2=0
      lia)))
     refine ⟨_,rfl,_,_,rfl,rfl,⟨L+1,as2,uf.set L (r++[z]),.non,some (.ref a),?_,.inr ⟨rfl,⟨S3.cn (aiM hc h),F3,hk2.sa,hk2.su,X3⟩⟩⟩,?_⟩
     ·rw [show ((L+1:Nat):Int)=(L:Int)+1 by lia];rfl
     ·show 0<_
      exact aeD _
   have hf:=hk.sf
   refine ⟨_,rfl,_,rfl,rdF hf.o T.fL T.Al (vh ..) (jw (.inl (.inl hf.ll)) ⟨rfl,_,rfl,fH (fun h=>?_) (fun h=>?_)⟩)⟩
   ·have h:=V.int.inj (of_decide_eq_true h)
    rw [aZ,hf.n] at h
    have h:L=fG.length:=by lia
    refine ⟨_,rfl,rdF hf.o T.fL T.Al (vh ..) ⟨.inl ⟨rfl,_,.inl (.inl hf.ll)⟩,(by show 0<=sizeLine;decide),fun d hd=>⟨l,_,_,rfl,rfl,(Same.new hd) _ _ hf.ll,bB (by rw [aZ,hf.n];lia),?_⟩⟩⟩
    rw [show as1.map V.ref++[V.ref d]=(as1++[d]).map V.ref by rw [cC];rfl]
    have s1:=Same.new (o:=.lst []) hd
    refine key _ (as1++[d]) (fG++[[]]) ⟨hf.grow hd,(hk.fr.trans (Fr.same s1) hk.sa).trans (Fr.lst (s1 _ _ hf.ll) (.inl rfl)) hk.sa,fun c m=>?_,fun c m=>Ot _ (hk.su c m),fun x m=>hk.sx x (akl m)⟩ (by rw [cV];show L<fG.length+1;lia) ((gz.grow hd).at ((gz.b.kp.same s1).chg (s1 _ _ hf.ll) gz.l))
    walk_at "i"
    ·exact hk.sa c m
    ·rw [dh.mp m]
     exact .inr (hk.free hd)
   ·have h:¬ L=fG.length:=fun z=>h (decide_eq_true (congrArg V.int (by rw [aZ,hf.n,z])))
    exact key G as1 fG hk tb_g% gz
  ·exact ⟨_,rfl,rfl,_,rfl,tH (q as1 fG G hk)⟩
open MK
theorem Kp.but {q C:Addr} {fs:List (Str × V)} (h:Kp A H x) (b:L2.But q H H') (hq:H q=some (.ins C e fs)) (n:q∉x.all):Kp A H' x :=
 (h.pp.but b hq fun m=>n (jq.mpr (.inr m))).kp (b _ _ h.o fun z=>n (jq.mpr (.inl z.symm))) h.nk
section
variable {s l:Addr} {cnt:Nat->Nat}
theorem Sf.set (h:Sf A s ds l as room reach span ns cnt many rows H) (m:Int):Sf A s ds l as room reach span ns cnt m rows (upd H s (.ins A.iT ds (shf (.int room) (.int reach) (.int span) (.int m) (.ref l))))/\Fr A s l as H (upd H s (.ins A.iT ds (shf (.int room) (.int reach) (.int span) (.int m) (.ref l)))):=by
 have kl:∀ {b:Addr} {vs:List V},H b=some (.lst vs)->(upd H s (.ins A.iT ds (shf (.int room) (.int reach) (.int span) (.int m) (.ref l)))) b=some (.lst vs):=fun e=>by rw [aA (iw e h.o (by intro z;cases z))];exact e
 have bt:L2.But s H (upd H s (.ins A.iT ds (shf (.int room) (.int reach) (.int span) (.int m) (.ref l)))):=fun b o e n=>by rw [aA n];exact e
 exact ⟨⟨ak,kl h.ll,h.n,h.nd,fun i a r e1 e2=>⟨kl (h.rw i a r e1 e2).1,(h.rw i a r e1 e2).2⟩,fun i r e j x e2=>(h.bk i r e j x e2).at ((h.bk i r e j x e2).b.kp.but bt h.o (h.bk i r e j x e2).s),h.ct⟩,fun b o e n _ _=>bt b o e n,fun y k n _ _=>k.but bt h.o n⟩
end
/-- what a laying does -/
structure Sl (A:Ad) (s ds l:Addr) (as:List Addr) (room:Nat) (reach span:Int) (ns:List Int) (n:Nat) (rows:List (List KS)) (H G:Hp) (as1:List Addr) (fG:List (List KS)):Prop where
 sf:Sf A s ds l as1 room reach span ns (fun i=>n / 2 ^ i) n fG G
 fr:Fr A s l as H G
 sa:∀ c∈as1,c∈as\/H c=none
 sx:∀ x,On fG x->On rows x\/∀ b∈x.all,H b=none
noncomputable def spLay (A:Ad):Sp:=fun vs H Q E =>
 (∃ (s ds l:Addr) (as:List Addr) (room:Nat) (reach span:Int) (ns:List Int) (n:Nat) (rows:List (List KS)) (y:KS),vs=[.ref s,.ref y.k]/\Sf A s ds l as room reach span ns (fun i=>n / 2 ^ i) n rows H/\B5 A room reach span ns 0 n (fun _=>none) H y/\(n:Int)+1<=fM ns/\2<=room/\room<=15/\room % 2=0 /\
  ∀ (as1:List Addr) (fG:List (List KS)) (G:Hp),Sl A s ds l as room reach span ns (n+1) rows H G as1 fG->Q .non G)
 \/ ∃ (s ds:Addr) (many bl:V) (room:Nat) (reach span:Int) (y:KS),vs=[.ref s,.ref y.k]/\H s=some (.ins A.iT ds (shf (.int room) (.int reach) (.int span) many bl))/\Ko A H y/\2<=room/\room<=64/\room % 2=0/\(room≠y.room\/reach≠y.reach\/span≠y.span)/\∀ H',Same H H'->E (.ref A.iz) none H'
theorem alm (T:Tx K mg A):cB P w K mg base (CXE P w) 8 A.YK A.xM Q25 (spLay A):=by
 k_dat (T.F'55.okE,RW,s0) "a"
 ·rcases h with ⟨s,ds,l,as,room,reach,span,ns,n,rows,y,rfl,_⟩ | ⟨s,ds,many,bl,room,reach,span,y,rfl,_⟩ <;> rfl
 ·skip
  refine ⟨_,(ao (bC (cI (pv 0) T.fL T.Mi (ok'54 T) tb_g% T.b'54 .nil aL (aj (aF (Vv T) tb_g% T.acZ anm (aj (T9 (pv 0) T.fL T.Cy (alj T) tb_g% T.b'53 .nil aL) (aj (pv 1) au))) au)))
   (aC (PS.nox (aV (pv 0) (aK bA (pf 0) aB) rfl)))),?_⟩
  rcases h with ⟨s,ds,l,as,room,reach,span,ns,n,rows,y,rfl,hS,by',hn,r2,r15,ev,q⟩ | ⟨s,ds,many,bl,room,reach,span,y,rfl,o,hy,r2,r64,ev,hd,q⟩
  ·refine ⟨_,rfl,s,ds,_,rfl,hS.o,Lq tb_g%,_,rfl,s,ds,_,rfl,hS.o,Lq tb_g%,s,ds,room,reach,span,_,_,rfl,hS.o,r2,by lia,ev,fun y0 H1 ky ey fy emy s1=>?_⟩
   obtain ⟨m,hm,khm⟩:=by'.kh
   obtain ⟨j,hj,nbj⟩:=by'.nb
   have k0:Kh y0 0:=(kh0 reach span r2 tb_g% ev (.inl r15)).eq ey
   have b0:=kb0 ey
   have mb:=rG ns
   have al:Alk y0 y 0 m:=⟨by'.rm.trans ey.room.symm,by'.rc.trans ey.reach.symm,by'.sn.trans ey.span.symm,k0,khm,by have:=khm.few;lia,b0.1.2,by'.kb.2⟩
   refine ⟨_,rfl,.inl ⟨y0,y,0,m,rfl,ky,by'.kp.same s1,al,fun z H2 kz pz fz ez s2=>?_⟩⟩
   have eq:Eqp z y:=pz.bare khm by'.kb.2 by'.kw (by rw [by'.rm,by'.rc,by'.sn];exact ey)
   have kb:=pz.kb b0.1 by'.kb
   have s12:=s1.trans s2
   have bz:B5 A room reach span ns 0 n (fun _=>none) H2 z:=⟨(fun _ _ e=>nomatch e),kz,by'.bl.of eq,⟨m,hm,khm.eq eq⟩,⟨j,hj,nbj.eq eq⟩,kb.1,kb.2 tb_g%,eq.room.trans by'.rm,eq.reach.trans by'.rc,eq.span.trans by'.sn,fun _ _=>rfl⟩
   refine ⟨s,ds,l,as,room,reach,span,ns,n,n,rows,z,rfl,hS.same s12,hS.fresh bz (fun b m=>s1.free (fz b m)) (fun b m=>s1.free (ez b m)),hn,fun as1 fG G hk=>?_⟩
   refine ⟨_,rfl,rdF hk.sf.o T.fL T.pW (ql ..) ⟨_,_,rfl,rfl,_,rfl,s,_,ds,_,rfl,hk.sf.o,T.fL,T.pW,(by show 5<1000;decide),?_⟩⟩
   rw [SM]
   have st:=hk.sf.set ((n:Int)+1)
   have sa:∀ c∈as1,c∈as\/H c=none:=fun c m=>by
    rcases hk.sa c m with z | z
    ·exact .inl z
    ·exact .inr (s12.free z)
   refine q as1 fG _ ⟨st.1,((Fr.same s12).trans hk.fr fun c m=>.inl m).trans st.2 sa,sa,fun x m=>?_⟩
   ·rcases hk.sx x m with z | rfl | z
    ·exact .inl z
    ·exact .inr fun b mb=>s1.free (fz b mb)
    ·exact .inr fun b mb=>s12.free (z b mb)
  ·refine ⟨_,rfl,s,ds,_,rfl,o,Lq tb_g%,_,rfl,s,ds,_,rfl,o,Lq tb_g%,s,ds,room,reach,span,_,_,rfl,o,r2,r64,ev,fun y0 H1 ky ey fy emy s1=>?_⟩
   refine ⟨_,rfl,.inr ⟨y0,y,rfl,ky.o,s1 _ _ hy,?_,q H1 s1⟩⟩
   rw [show y0.room=room from ey.room,show y0.reach=reach from ey.reach,show y0.span=span from ey.span]
   exact hd
open MK
structure D5 (A:Ad) (room:Nat) (reach span:Int) (ns:List Int) (P:KS->Prop) (S:Nat) (H0 H:Hp) (x:KS):Prop where
 sm:Same H0 H
 kp:Kp A H x
 d:P x
 kh:∃ n,n<=S*cap ns/\Kh x n
 nb:∃ m,m<=S*6/\Nb x m
 kb:Kb x
 rm:x.room=room
 rc:x.reach=reach
 sn:x.span=span
 fx:∀ b∈x.all,H0 b=none
section
variable {P P':KS->Prop} {H3 H4 H5:Hp}
theorem D5.alk (h:D5 A room reach span ns P S H0 H1 x) (g:B5 A room reach span ns L k H4 H5 y) (many:((S+2 ^ L:Nat):Int)<=fM ns):∃ n m,n+m<=(S+2 ^ L)*cap ns/\Alk x y n m:=by
 obtain ⟨n,hn,kn⟩:=h.kh
 obtain ⟨m,hm,km⟩:=g.kh
 have c:=Ln many
 have e:=wM S (2 ^ L) (cap ns)
 exact ⟨n,m,by lia,g.rm.trans h.rm.symm,g.rc.trans h.rc.symm,g.sn.trans h.sn.symm,kn,km,by lia,h.kb.2,g.kb.2⟩
theorem D5.Af {m:Nat} (h:D5 A room reach span ns P S H0 H1 x) (g:B5 A room reach span ns L k H4 H5 y) (few:n+m<=(S+2 ^ L)*cap ns) (al:Alk x y n m) (kp:Kp A H3 z) (p:KP x y z) (pz:P' z) (fz:∀ b∈z.all,H1 b=none) (s:Same H1 H3):D5 A room reach span ns P' (S+2 ^ L) H0 H3 z:=by
 obtain ⟨i,hi,ni⟩:=h.nb
 obtain ⟨j,hj,nj⟩:=g.nb
 have e:=wM S (2 ^ L) 6
 exact ⟨h.sm.trans s,kp,pz,⟨n+m,few,p.kh al⟩,⟨i+j+1,by lia,ni.Af p al nj⟩,(p.kb h.kb g.kb).1,p.room.trans h.rm,p.reach.trans h.rc,p.span.trans h.sn,fun b m=>h.sm.free (fz b m)⟩
theorem D5.to (h:D5 A room reach span ns P S H0 H1 x) (s:Same H1 H3) (pz:P' x) {S':Nat} (e:S=S'):D5 A room reach span ns P' S' H0 H3 x:=by
 subst e
 exact ⟨h.sm.trans s,h.kp.same s,pz,h.kh,h.nb,h.kb,h.rm,h.rc,h.sn,h.fx⟩
end
noncomputable def rev (bs:List (Nat × Int)):List (Nat × Nat):=(bs.map fun p=>(p.1,p.2.toNat)).reverse
theorem Lr (bs:List (Nat × Int)) (b:Nat × Int):rev (bs++[b])=(b.1,b.2.toNat)::rev bs:=by
 unfold rev;rw [cC,Ow];rfl
noncomputable def szs (bs:List (Nat × Int)):Nat:=(bs.map fun b=>2 ^ b.1).sum
theorem Lx (bs:List (Nat × Int)) (b:Nat × Int):szs (bs++[b])=szs bs+2 ^ b.1:=by
 unfold szs;rw [cC,Ds];simp
theorem Il (f:Int):∀ bs:List (Nat × Int),endOf f bs=f+(szs bs:Nat)
 | []=>by show f+0=f+0;rfl
 | b::bs=>by
  have ih:=Il f bs
  unfold endOf szs at *
  rw [dW,jr,dW,jr,zU,wN]
  have:(((2:Nat):Int))=2:=rfl
  rw [this];lia
/-- a run's cover,and what comes of it -/
noncomputable def Rn5 (D:List (Nat × Nat)->KS->Prop) (f t:Int) (x:KS):Prop:=∃ bs,Cov f t bs/\endOf f bs=t/\D (rev bs) x
theorem Sf.find {s l:Addr} (h:Sf A s ds l as room reach span ns (fun i=>n / 2 ^ i) many rows H) (hj:(j+1)*2 ^ L<=n):∃ a r x,as[L]? = some a/\rows[L]? = some r/\r[j]? = some x:=by
 have p:0<2 ^ L:=Xq (by decide)
 have h1:j+1<=n / 2 ^ L:=(Nat.le_div_iff_mul_le p).mpr hj
 have hL:L<rows.length:=by
  rcases ig L rows.length with z | z
  ·exact z
  ·have e:n / 2 ^ L=0:=h.ct L z
   rw [e] at h1;lia
 have ea:=fY (l:=as) (i:=L) (by rw [h.n];exact hL)
 have er:=fY hL
 have lr:=(h.rw L _ _ ea er).2
 exact ⟨_,_,_,ea,er,fY (by rw [lr];exact h1)⟩
noncomputable def aln (A:Ad):Sp:=fun vs H Q E =>
 (∃ (s ds l:Addr) (as:List Addr) (room:Nat) (reach span:Int) (ns:List Int) (n:Nat) (rows:List (List KS)) (f t:Int),vs=[.ref s,.int f,.int t]/\Sf A s ds l as room reach span ns (fun i=>n / 2 ^ i) n rows H/\(n:Int)<=fM ns/\2<=room/\room<=15/\room % 2=0/\Th reach/\Th span/\0<=f/\f<t/\t<=n /\
  ∀ (x:KS) (G:Hp),D5 A room reach span ns (Rn5 (Du room reach span ns) f t) (t-f).toNat H G x->Q (.ref x.k) G)
 \/ ∃ (s ds:Addr) (bl room reach span:V) (many f t:Int),vs=[.ref s,.int f,.int t]/\H s=some (.ins A.iT ds (shf room reach span (.int many) bl))/\(f<0\/t<=f\/many<t)/\E (.ref A.ju) none H
theorem abv (T:Tx K mg A):cB P w K mg base (CXE P w) 7 A.YL A.nR Q30 (aln A):=by
 k_dat (T.F'56.okE,gY,s0) "a"
 ·rcases h with ⟨s,ds,l,as,room,reach,span,ns,n,rows,f,t,rfl,_⟩ | ⟨s,ds,bl,room,reach,span,many,f,t,rfl,_⟩ <;> rfl
 ·skip
  refine ⟨_,(ao (dO (PT.nox (PW.pt (pw_or (aQ vC (pv 1) aB (aY _)) (pw_or (aQ aaF (pv 1) (pv 2) (aY _)) (pw_or1 (aQ Gn (pv 2) (pf 0) (aY _))))))) (aC (pH Jz T.jh rfl T.uX (aj gF au))) cG)
   (ao (PS.nox (psS 3 gY.nd (T9 (pv 0) T.fL T.Cy (alj T) tb_g% T.b'53 .nil aL)))
   (ao (PS.nox (rR jB rfl (mH (aF (ok'47 T) tb_g% T.F'47 aL (aj (pv 1) (aj (pv 2) au)))) (Q0 rfl (mU (pgN 4 gY.nd) (mU (pgN 5 gY.nd) Hx))) (aC (psS 3 gY.nd (aF (Vv T) tb_g% T.acZ j8 (aj (pv 3) (aj (dw (ixG (cN hr)) (dw (ixG (cN hr)) (pf 0) (pv 4) (fun _ _=>rfl)) (aK amU (pv 5) (pv 4)) (fun _ _=>rfl)) au)))))))
   (aC (PS.nox (bQ (pv 3))))))),?_⟩
  rcases h with ⟨s,ds,l,as,room,reach,span,ns,n,rows,f,t,rfl,hS,hn,r2,r15,ev,hre,hsp,f0,ft,tn,q⟩ | ⟨s,ds,bl,room,reach,span,many,f,t,rfl,o,hd,q⟩
  rotate_left
  ·refine ⟨_,rfl,_,_,rfl,rfl,_,rfl,fH (fun h=>?_) (fun h=>?_)⟩
   ·k_dat q "h"
   ·have h:¬ f<0:=fun z=>h (decide_eq_true z)
    refine ⟨_,rfl,_,rfl,_,_,rfl,rfl,_,rfl,fH (fun h2=>?_) (fun h2=>?_)⟩
    ·k_dat q "h"
    ·have h2:¬ t<=f:=fun z=>h2 (decide_eq_true z)
     refine ⟨_,rfl,_,rfl,rdF o T.fL T.pW (ql ..) ⟨_,_,rfl,rfl,_,rfl,?_⟩⟩
     rw [show decide (many<t)=true from decide_eq_true tb_g%]
     k_dat q "h"
  have mb:=rG ns
  refine ⟨_,rfl,_,_,rfl,rfl,_,rfl,?_⟩
  rw [show decide (f<0)=false from decide_eq_false tb_g%]
  refine tH ⟨_,rfl,_,rfl,_,_,rfl,rfl,_,rfl,?_⟩
  rw [show decide (t<=f)=false from decide_eq_false tb_g%]
  refine tH ⟨_,rfl,_,rfl,rdF hS.o T.fL T.pW (ql ..) ⟨_,_,rfl,rfl,_,rfl,?_⟩⟩
  rw [show decide ((n:Int)<t)=false from decide_eq_false tb_g%]
  refine tH ⟨_,rfl,s,ds,_,rfl,hS.o,Lq tb_g%,s,ds,room,reach,span,_,_,rfl,hS.o,r2,by lia,ev,fun y0 H1 ky ey fy emy s1=>?_⟩
  have W0:D5 A room reach span ns (Du room reach span ns (rev [])) (szs []) H H1 y0:=⟨s1,ky,ey,⟨0,dF _,(kh0 reach span r2 tb_g% ev (.inl r15)).eq ey⟩,⟨0,dF _,(nb0 hre hsp).eq ey⟩,(kb0 ey).1,ey.room,ey.reach,ey.span,fy⟩
  refine ⟨_,rfl,_,rfl,f,t,rfl,f0,ft,by lia,fun a ps bs H2 ha s2 cb cv ee lb=>?_⟩
  have W1:=W0.to (P':=Du room reach span ns (rev [])) s2 W0.d rfl
  refine ⟨a,rfl,⟨_,.inl (.inl cb.l)⟩,wV (K:=K) (a:=a) (xs:=ps.map V.ref) (fun i σ G=>∃ (x:KS) (y4 y5:Option V),σ=[some (.ref s),some (.int f),some (.int t),some (.ref x.k),y4,y5]/\Cb G a ps bs/\D5 A room reach span ns (Du room reach span ns (rev (bs.take i))) (szs (bs.take i)) H G x)
   ⟨y0,none,none,rfl,cb,W1⟩ (fun i σ G _ ⟨_,_,_,_,cb,_⟩=>.inl (.inl cb.l)) ?_ ?_⟩
  ·rintro i v σ G hi ⟨x,y4,y5,rfl,cb,W⟩
   obtain ⟨p,ep,rfl⟩:∃ p,ps[i]? = some p/\V.ref p=v:=by
    rw [gZ] at hi
    cases e:ps[i]? with
    | none=>rw [e] at hi;cases hi
    | some y=>rw [e] at hi;exact ⟨y,rfl,bW hi⟩
   obtain ⟨b,eb⟩:∃ b,bs[i]? = some b:=⟨_,fY (by rw [<- cb.n];exact (gH.mp ep).1)⟩
   have hb:=cb.t i p b ep eb
   obtain ⟨L,at_⟩:=b
   obtain ⟨e1,bk⟩:=cv i L at_ eb
   rw [Il] at e1
   have a0:0<=at_:=by lia
   obtain ⟨tn',rfl⟩:∃ m:Nat,at_=m:=⟨at_.toNat,(zR a0).symm⟩
   have p2:((2:Int) ^ L)=((2 ^ L:Nat):Int):=by rw [wN];rfl
   have dv:tn' % 2 ^ L=0:=by have:=bk.dv;rw [p2] at this;lia
   have fits:=bk.fits
   rw [p2] at fits
   obtain ⟨j,rfl⟩:∃ j,tn'=j*2 ^ L:=⟨tn' / 2 ^ L,(Nat.div_mul_cancel (Nat.dvd_of_mod_eq_zero dv)).symm⟩
   have hj:(j+1)*2 ^ L<=n:=by rw [wM,Jx];lia
   have SG:=hS.same W.sm
   obtain ⟨c,r,u,ea,er,eu⟩:=SG.find hj
   have gu:=SG.bk L r er j u eu
   have hc:=(SG.rw L c r ea er).1
   obtain ⟨n1,n2,few,al⟩:=W.alk gu.b tb_g%
   refine ⟨p,_,rfl,.inl (.inl hb),rfl,_,_,rfl,_,_,rfl,rfl,?_⟩
   refine ⟨_,rfl,_,rfl,rdF SG.o T.fL T.Al (vh ..) ⟨_,rfl,lO (.inl (.inl SG.ll)) (v:=.ref c) (yq (by rw [gZ,ea];rfl)) ⟨_,rfl,_,rfl,_,_,rfl,rfl,(by show (0:Int)<=(L:Int);lia),?_⟩⟩⟩
   refine lO (.inl (.inl hc)) (v:=.ref u.k) ?_ (.inl ⟨x,u,n1,n2,rfl,W.kp,gu.b.kp,al,fun w G4 kw pw fw ew sw=>?_⟩)
   ·have:((j*2 ^ L:Nat):Int) / 2 ^ ((L:Int)).toNat=(j:Int):=by
     rw [zT,p2,<- Int.natCast_ediv,Nat.mul_div_cancel _ (Xq (by decide))]
    dsimp only
    rw [this]
    exact yq (by rw [gZ,gZ,eu];rfl)
   have et:bs.take (i+1)=bs.take i++[(L,((j*2 ^ L:Nat):Int))]:=by rw [nZ,eb];rfl
   refine ⟨w,_,_,rfl,cb.same sw,?_⟩
   rw [et,Lr,Lx]
   exact W.Af gu.b few al kw pw ⟨x,u,W.d,by rw [zT];exact gu.b.bl,gu.b.gb,pw⟩ fw sw
  ·rintro σ G ⟨x,y4,y5,rfl,cb,W⟩
   rw [aZ,cb.n,qu] at W
   have:=Il f bs
   exact ⟨_,rfl,q x G (W.to (Same.refl _) ⟨bs,cv,ee,W.d⟩ tb_g%)⟩
open MK
theorem D5.kx {P:KS->Prop} (h:D5 A room reach span ns P S H0 H1 x) (few:S<=33):Kx x:=by
 obtain ⟨n,_,kn⟩:=h.kh
 obtain ⟨m,hm,nm⟩:=h.nb
 exact nm.kx tb_g% kn
theorem Dm.snoc {ps:List (Nat × Nat)} {p:Nat × Nat} {b:KS} (h:Dm room reach span ns ps x) (hb:Bl room reach span ns p.1 p.2 b) (k:KP x b z):Dm room reach span ns (p::ps) z:=by
 cases ps with
 | nil=>exact h.elim
 | cons q r=>exact ⟨x,b,h,hb,k⟩
noncomputable def spDue (K:aW):Sp:=fun vs H Q _=>∃ (a t:Addr) (ns:List Int) (f e:Int) (room:Nat) (reach span:Int),vs=[.ref a,.ref t,.int f,.int e]/\SqL K H a (ns.map V.int)/\H t=some (.tup [.int room,.int reach,.int span])/\0<=f/\f<e/\e<=fM ns/\2<=room/\room<=15/\room % 2=0/\Th reach/\Th span /\
 ∀ (x:KS) (H':Hp),Rn5 (Dm room reach span ns) f e x->Same H H'->Q (.str (iu (bG "\n") (nW x))) H'
noncomputable def aos (σ:St) (_:Hp):Nat:=match σ with
 | [_,_,_,some (.int l),_,some (.int t),_,_]=>(l-t).toNat
 | _=>0
noncomputable def aot (σ:St) (_:Hp):Nat:=match σ with
 | [_,_,_,_,_,_,some (.int j),_]=>(60-j).toNat
 | _=>0
theorem aiO (T:Tx K mg A):cB P w K mg base CX0 15 A.ab0 A.aa5 Q31 (spDue K):=by
 k_dat (T.F'57.ok,lH,s) "a"
 ·obtain ⟨a,t,ns,f,e,room,reach,span,rfl,_⟩:=h
  rfl
 ·obtain ⟨a,t,ns,f,e,room,reach,span,rfl,hS,ht,f0,fe,em,r2,r15,ev,hre,hsp,q⟩:=h
  have mb:=rG ns
  refine ⟨_,(ao (psS 4 lH.nd lW)
   (ao (psS 5 lH.nd (pv 2))
   (ao (jD jB (aQ vC (pv 5) (pv 3) (aY _)) (ao (psS 6 lH.nd aB)
   (ao (jD jB (PW.pt (pw_and (aQ lN (aK iU (pv 5) (aK Q6 aB (pv 6))) aB (aY _)) (pw_and1 (aQ aaE (aK bA (pv 5) (aK Q6 aB (pv 6))) (pv 3) (aY _))))) (aC (psS 6 lH.nd (aK bA (pv 6) aB))))
   (ao (psS 7 lH.nd (aF (VD T) tb_g% T.ah2 aL (aj (pv 0) (aj (pv 1) (aj (pv 6) (aj (pv 5) au))))))
   (ao (dO (aQ agI (pv 4) lW (aY _)) (aC (psS 4 lH.nd (pv 7))) (aC (psS 4 lH.nd (aF (Vv T) tb_g% T.acZ j8 (aj (pv 4) (aj (pv 7) au))))))
   (aC (psS 5 lH.nd (aK bA (pv 5) (aK Q6 aB (pv 6))))))))))
   (aC (bQ (aF (abq T) tb_g% T.ah0 aL (aj (pv 4) au))))))),?_⟩
  refine ⟨_,rfl,?_⟩
  show z8 _ _ _ [some (.ref a),some (.ref t),some (.int f),some (.int e),some .non,some (.int f),none,none] H
  refine jE (fun σ G=>∃ (bs:List (Nat × Int)) (mv:V) (at_:Int) (y6 y7:Option V),σ=[some (.ref a),some (.ref t),some (.int f),some (.int e),some mv,some (.int at_),y6,y7]/\Same H G/\Cov f e bs/\endOf f bs=at_/\f<=at_/\at_<=e/\((bs=[]/\mv = .non)\/∃ x,mv = .ref x.k/\D5 A room reach span ns (Dm room reach span ns (rev bs)) (szs bs) H G x)) aos
   ⟨[],.non,f,none,none,rfl,Same.refl _,(fun i l t e=>by cases e),(by show f+0=f;lia),by lia,by lia,.inl ⟨rfl,rfl⟩⟩ ?_
   (fun σ H Q Q' hq h=>fj (jj (bU 5) (bU 3)) σ H Q Q' hq h)
  rintro σ G ⟨bs,mv,at_,y6,y7,rfl,sG,cv,ee,f1,f2,hm⟩
  have es:=Il f bs
  refine ⟨_,rfl,_,rfl,_,_,rfl,rfl,_,rfl,fH (fun h=>?_) (fun h=>?_)⟩
  ·have hlt:at_<e:=of_decide_eq_true h
   refine sq fun R0 hR0=>hR0 _ _ (sq fun R hR=>?_)
   have fin:∀ j:Nat,Blk e j at_->R [some (.ref a),some (.ref t),some (.int f),some (.int e),some mv,some (.int at_),some (.int j),y7] G:=by
    intro j b
    refine hR _ _ ?_
    obtain ⟨m,rfl⟩:∃ m:Nat,at_=m:=⟨at_.toNat,(zR tb_g%).symm⟩
    have p2:((2:Int) ^ j)=((2 ^ j:Nat):Int):=by rw [wN];rfl
    have fits:=b.fits
    rw [p2] at fits
    have j5:j<=5:=by
     rcases ig 5 j with z | z
     ·have:2 ^ 6<=2 ^ j:=yR (by decide) z
      lia
     ·exact z
    have pj:0<2 ^ j:=Xq (by decide)
    refine ⟨_,rfl,_,rfl,_,rfl,_,rfl,j,j5,a,t,ns,m,room,reach,span,rfl,sG.seq hS,by lia,sG _ _ ht,r2,r15,ev,hre,hsp,fun y G1 by'=>?_⟩
    refine sq fun R1 hR1=>hR1 _ _ (sq fun R2 hR2=>?_)
    have fin2:∀ (x:KS) (G2:Hp),D5 A room reach span ns (Dm room reach span ns (rev (bs++[(j,(m:Int))]))) (szs (bs++[(j,(m:Int))])) H G2 x->R2 [some (.ref a),some (.ref t),some (.int f),some (.int e),some (.ref x.k),some (.int m),some (.int j),some (.ref y.k)] G2:=by
     intro x G2 W
     refine hR2 _ _ ?_
     have e1:(1:Int)*2 ^ ((j:Int)).toNat=((2 ^ j:Nat):Int):=by rw [zT,p2,JC]
     refine ⟨_,rfl,_,rfl,_,_,rfl,rfl,⟨by lia,by lia⟩,_,_,rfl,rfl,⟨bs++[(j,(m:Int))],.ref x.k,(m:Int)+((2 ^ j:Nat):Int),_,_,by dsimp only;rw [e1];rfl,W.sm,cv.snoc ee b,by rw [Lh,ee,p2],by lia,by lia,.inr ⟨x,rfl,W⟩⟩,?_⟩
     dsimp only
     rw [e1]
     show (e-((m:Int)+((2 ^ j:Nat):Int))).toNat<(e-(m:Int)).toNat
     lia
    rcases hm with ⟨rfl,rfl⟩ | ⟨x,rfl,W⟩
    ·refine ⟨_,rfl,rfl,_,rfl,oG ⟨_,rfl,fin2 y G1 ?_⟩⟩
     obtain ⟨i,hi,ni⟩:=by'.nb
     rw [Lr,Lx]
     exact ⟨sG.trans by'.sm,by'.kp,by'.bl,by rw [show szs []+2 ^ ((j,(m:Int)):Nat × Int).1=2 ^ j from uy _];exact by'.kh,⟨i,by rw [show szs []+2 ^ ((j,(m:Int)):Nat × Int).1=2 ^ j from uy _];lia,ni⟩,by'.kb,by'.rm,by'.rc,by'.sn,fun b m=>sG.free (by'.fx b m)⟩
    ·obtain ⟨n1,n2,few,al⟩:=W.alk by' tb_g%
     refine ⟨_,rfl,rfl,_,rfl,tH ⟨_,rfl,_,rfl,.inl ⟨x,y,n1,n2,rfl,W.kp.same by'.sm,by'.kp,al,fun z G2 kz pz fz ez sz=>fin2 z G2 ?_⟩⟩⟩
     rw [Lr,Lx]
     exact (W.to by'.sm W.d rfl).Af by' few al kz pz (Dm.snoc W.d by'.bl pz) fz sz
   refine jE (fun σ G'=>∃ j:Nat,σ=[some (.ref a),some (.ref t),some (.int f),some (.int e),some mv,some (.int at_),some (.int j),y7]/\G'=G/\at_ % 2 ^ j=0/\at_+2 ^ j<=e) aot
    ⟨0,rfl,rfl,(by show at_ % 1=0;lia),(by show at_+1<=e;lia)⟩ ?_
    (fun σ H Q Q' hq h=>Nz (fj (aa0 (yC (bU 5) (yC (mC _) (bU 6))) (mC _))) (fj (jj (jj (bU 5) (yC (mC _) (bU 6))) (bU 3))) σ H Q Q' hq h)
   rintro σ G3 ⟨j,rfl,rfl,dv,fit⟩
   have pj:(0:Int)<2 ^ j:=Eo (by decide)
   have lv:=ud (l:=j) (k:=51) tb_g%
   have e2:(2:Int)*2 ^ ((j:Int)).toNat=2 ^ j*2:=by rw [zT,Qn]
   refine ⟨_,rfl,_,rfl,_,_,rfl,rfl,⟨by lia,by lia⟩,_,_,rfl,rfl,(by show (0:Int)<2*2 ^ ((j:Int)).toNat;rw [e2];lia),rfl,_,rfl,fH (fun h1=>?_) (fun h1=>tH ?_)⟩
   ·have h1:at_ % (2*2 ^ ((j:Int)).toNat)=0:=V.int.inj (of_decide_eq_true h1)
    rw [e2] at h1
    refine ⟨_,rfl,_,rfl,_,_,rfl,rfl,⟨by lia,by lia⟩,_,_,rfl,rfl,_,rfl,_,_,rfl,rfl,_,rfl,fH (fun h2=>?_) (fun h2=>?_)⟩
    ·have h2:at_+2*2 ^ ((j:Int)).toNat<=e:=of_decide_eq_true h2
     rw [e2] at h2
     refine ⟨_,rfl,_,_,rfl,rfl,⟨j+1,?_,rfl,by rw [lM];exact h1,by rw [lM];exact h2⟩,?_⟩
     ·rw [show ((j+1:Nat):Int)=(j:Int)+1 by lia];rfl
     ·show (60-((j:Int)+1)).toNat<(60-(j:Int)).toNat
      lia
    ·have h2:¬ at_+2*2 ^ ((j:Int)).toNat<=e:=fun z=>h2 (decide_eq_true z)
     rw [e2] at h2
     exact fin j ⟨dv,fit,fun z=>h2 z.2⟩
   ·have h1:¬ at_ % (2*2 ^ ((j:Int)).toNat)=0:=fun z=>h1 (decide_eq_true (congrArg V.int z))
    rw [e2] at h1
    exact fin j ⟨dv,fit,fun z=>h1 z.1⟩
  ·have hge:¬ at_<e:=fun z=>h (decide_eq_true z)
   rcases hm with ⟨rfl,rfl⟩ | ⟨x,rfl,W⟩
   ·have:szs []=0:=rfl
    lia
   ·exact ⟨_,rfl,x,rfl,W.kp,W.kx tb_g%,fun G2 s2=>q x G2 ⟨bs,cv,by lia,W.d⟩ (W.sm.trans s2)⟩
open MK
noncomputable def spOut (A:Ad):Sp:=fun vs H Q _=>∃ (s ds:Addr) (bl room reach span:V) (many f t:Int),vs=[.ref s,.int f,.int t]/\H s=some (.ins A.iT ds (shf room reach span (.int many) bl))/\(f<0\/t<=f\/many<t)/\∀ H',Same H H'->Q (.bl true) H'
theorem abw (T:Tx K mg A):cB P w K mg base CX0 8 A.ab1 A.aa6 Q32 (spOut A):=by
 k_dat (T.ah1.ok,CG,s0) "a"
 ·obtain ⟨s,ds,bl,room,reach,span,many,f,t,rfl,_⟩:=h
  rfl
 ·obtain ⟨s,ds,bl,room,reach,span,many,f,t,rfl,o,hd,q⟩:=h
  refine ⟨_,(ao (psS 3 CG.nd lW)
   (ao (aaZ (i:=4) (B:=A.zY) rfl rfl rfl T.GC CG.nd rfl rfl (aaY (pv 0) T.fL T.jX (abv T) tb_g% T.b'56 .nil (aj (pv 1) (aj (pv 2) au))) (fun _=>(aC (psS 3 CG.nd (pv 4)))))
   (aC (bQ (JR (bO Nv (by rfl) T.jk Mv (aj (pv 3) (aj (fW (v:=.ref A.ju) (by rfl) T.uX (by rfl)) au))) (JQ (agD (bO KC (by rfl) T.jk Mv (aj (pv 3) (aj (lY (aj (fW (v:=.ref A.Ew) (by rfl) T.N8 (by rfl)) (aj (fW (v:=.ref A.Ey) (by rfl) T.Oa (by rfl)) (aj (fW (v:=.ref A.Ez) (by rfl) T.Cw (by rfl)) (aj (fW (v:=.ref A.iz) (by rfl) T.mY (by rfl)) au))))) au)))))))))),?_⟩
  refine ⟨_,rfl,s,ds,_,rfl,o,Lq tb_g%,_,rfl,_,rfl,.inr ⟨s,ds,bl,room,reach,span,many,f,t,rfl,o,hd,A.ju,rfl,T.tV,fun e he=>?_⟩⟩
  refine ⟨_,rfl,?_⟩
  refine ⟨_,rfl,⟨e,A.ju,_,_,true,rfl,ak,T.zf,rfl,(fun _ h=>h),T.cQ,_,rfl,oG ?_⟩⟩
  refine ⟨_,rfl,(by show 4<=sizeLine;decide),fun tp htp=>?_⟩
  have net:e≠tp:=fun z=>by rw [<- z,ak] at htp;cases htp
  exact ⟨e,A.ju,tp,[A.Ew,A.Ey,A.Ez,A.iz],false,rfl,by rw [aA net];exact ak,T.zf,ak,T.iI,_,rfl,q _ ((Same.new he).trans (Same.new htp))⟩
noncomputable def spUnl (A:Ad):Sp:=fun vs H Q _=>∃ (s ds t:Addr) (many bl:V) (room rm:Nat) (reach span rc sn:Int),vs=[.ref s,.ref t]/\H s=some (.ins A.iT ds (shf (.int room) (.int reach) (.int span) many bl))/\H t=some (.tup [.int rm,.int rc,.int sn])/\2<=room/\room<=60/\room % 2=0/\2<=rm/\rm<=64/\rm % 2=0/\(room≠rm\/reach≠rc\/span≠sn)/\∀ H',Same H H'->Q (.bl true) H'
theorem ok'59 (T:Tx K mg A):cB P w K mg base CX0 9 A.ab2 A.KY Q33 (spUnl A):=by
 k_dat (T.F'59.ok,rB,s0) "a"
 ·obtain ⟨s,ds,t,many,bl,room,rm,reach,span,rc,sn,rfl,_⟩:=h
  rfl
 ·obtain ⟨s,ds,t,many,bl,room,rm,reach,span,rc,sn,rfl,o,ht,r2,r64,ev,m2,m64,me,hd,q⟩:=h
  refine ⟨_,(ao (psS 2 rB.nd lW)
   (ao (aaZ (i:=3) (B:=A.zY) rfl rfl rfl T.GC rB.nd rfl rfl (aaY (pv 0) T.fL T.GF (alm T) tb_g% T.b'55 .nil (aj (gA T.aa8 (abn T) tb_g% rfl T.pR T.b'32 .nil aL (aj (dw (ixG (cN hr)) (pv 1) aB (fun _ _=>rfl)) (aj (dw (ixG (cN hr)) (pv 1) aB (fun _ _=>rfl)) (aj (dw (ixG (cN hr)) (pv 1) aB (fun _ _=>rfl)) au)))) au)) (fun _=>(aC (psS 2 rB.nd (pv 3)))))
   (aC (bQ (JR (bO Nv (by rfl) T.jk Mv (aj (pv 2) (aj (fW (v:=.ref A.iz) (by rfl) T.mY (by rfl)) au))) (JQ (agD (bO KC (by rfl) T.jk Mv (aj (pv 2) (aj (lY (aj (fW (v:=.ref A.Ew) (by rfl) T.N8 (by rfl)) (aj (fW (v:=.ref A.Ey) (by rfl) T.Oa (by rfl)) (aj (fW (v:=.ref A.Ez) (by rfl) T.Cw (by rfl)) (aj (fW (v:=.ref A.ju) (by rfl) T.uX (by rfl)) au))))) au)))))))))),?_⟩
  refine ⟨_,rfl,s,ds,_,rfl,o,Lq tb_g%,_,rfl,gB (.inl (.inl ht)) (v:=.int rm) rfl ⟨_,rfl,gB (.inl (.inl ht)) (v:=.int rc) rfl ⟨_,rfl,gB (.inl (.inl ht)) (v:=.int sn) rfl fun k dk n1 n2 n3=>?_⟩⟩⟩
  refine ⟨k,dk,rm,rc,sn,rfl,ak,m2,m64,me,fun x H2 kp eqx ek Z6 aiE bt=>⟨rfl,?_⟩⟩
  have up2:Same H (upd (upd H dk (.own k)) k (.ins A.fZ dk [])):=fun b o e=>by rw [aA (aq e n1),aA (aq e n2)];exact e
  have s2:Same H H2:=fun b o e=>bt b o (up2 b o e) (aq e n1)
  refine .inr ⟨s,ds,many,bl,room,reach,span,x,by rw [ek];rfl,s2 _ _ o,kp.o,r2,by lia,ev,?_,fun H3 s3=>⟨A.iz,rfl,T.yN,fun e he=>?_⟩⟩
  ·rw [show x.room=rm from eqx.room,show x.reach=rc from eqx.reach,show x.span=sn from eqx.span];exact hd
  refine ⟨_,rfl,?_⟩
  refine ⟨_,rfl,⟨e,A.iz,_,_,true,rfl,ak,T.Ob,rfl,(fun _ h=>h),T.fO,_,rfl,oG ?_⟩⟩
  refine ⟨_,rfl,(by show 4<=sizeLine;decide),fun tp htp=>?_⟩
  have net:e≠tp:=fun z=>by rw [<- z,ak] at htp;cases htp
  exact ⟨e,A.iz,tp,[A.Ew,A.Ey,A.Ez,A.ju],false,rfl,by rw [aA net];exact ak,T.Ob,ak,T.oM,_,rfl,q _ (s2.trans (s3.trans ((Same.new he).trans (Same.new htp))))⟩
open MK
theorem aiP (e:Eqp x y):nW x=nW y:=by
 unfold nW fN rT rN
 rw [e.room,e.reach,e.span,e.cm.t,e.cm.l,e.cm.c,e.wn.t,e.wn.l,e.wn.c,e.up.tt,e.up.ov,e.up.un,e.up.tn,e.up.mi,e.up.ma,e.up.ls,e.dn.tt,e.dn.ov,e.dn.un,e.dn.tn,e.dn.mi,e.dn.ma,e.dn.ls,e.wi.c,e.wi.b,e.di.n,e.di.v,e.di.C,e.ba]
theorem aou (a:Addr):(Value.ref a == Value.ref a)=true:=by simp
theorem aad {f:Int} (h:Rn5 (Du room reach span ns) f t x) (g:Rn5 (Dm room reach span ns) f t y):nW x=nW y:=by
 obtain ⟨bs,c1,e1,d1⟩:=h
 obtain ⟨cs,c2,e2,d2⟩:=g
 rw [c1.uniq c2 e1 e2] at d1
 exact aiP (Dm.du d2 d1)
theorem D5.row {P:KS->Prop} {H2:Hp} (h:D5 A room reach span ns P S H0 H1 x) (f:Far A x.pts H1 H2):Same H0 H2:=fun b o e=>f.pb b o (h.sm b o e) fun m=>by
 have:=h.fx b (jq.mpr (.inr m))
 rw [e] at this;cases this
noncomputable def spRun (K:aW) (A:Ad):Sp:=fun vs H Q _=>∃ (a t s ds l:Addr) (as:List Addr) (ns:List Int) (k:Int) (room:Nat) (reach span:Int) (n:Nat) (rows:List (List KS)),vs=[.ref a,.int k,.ref s,.ref t,.int n]/\SqL K H a (ns.map V.int)/\H t=some (.tup [.int room,.int reach,.int span])/\0<=k/\k<1000/\Sf A s ds l as room reach span ns (fun i=>n / 2 ^ i) n rows H/\1<=n/\(n:Int)<=fM ns/\2<=room/\room<=15/\room % 2=0/\Th reach/\Th span/\∀ H',Same H H'->Q (.bl true) H'
theorem ok'60 (T:Tx K mg A):cB P w K mg base CX0 16 A.ab3 A.aa7 Q34 (spRun K A):=by
 k_dat (T.F'60.ok,CJ,s0) "a"
 ·obtain ⟨a,t,s,ds,l,as,ns,k,room,reach,span,n,rows,rfl,_⟩:=h
  rfl
 ·obtain ⟨a,t,s,ds,l,as,ns,k,room,reach,span,n,rows,rfl,hS,ht,k0,k1,hF,n1,hn,r2,r15,ev,hre,hsp,q⟩:=h
  have mb:=rG ns
  refine ⟨_,(ao (psS 5 CJ.nd (aF (oF T) tb_g% T.xX aL (aj (pv 0) (aj (pv 1) (aj aB (aj (pv 4) au))))))
   (ao (psS 6 CJ.nd (aK bA (aK bA (pv 5) aB) (aF (oF T) tb_g% T.xX aL (aj (pv 0) (aj (pv 1) (aj aB (aj (aK uF (pv 4) (pv 5)) au)))))))
   (ao (psS 7 CJ.nd (cI (pv 2) T.fL T.jX (abv T) tb_g% T.b'56 .nil j8 (aj (pv 5) (aj (pv 6) au))))
   (ao (dO (PW.pt (pw_or (QZ (EY (bO call_isinstance (by rfl) T.jk Mv (aj (pv 7) (aj (fW (v:=.ref A.fZ) (by rfl) T.pR (by rfl)) au))))) (pw_or1 (aQ pC (aF (abq T) tb_g% T.ah0 aL (aj (pv 7) au)) (aF (aiO T) tb_g% T.F'57 aL (aj (pv 0) (aj (pv 3) (aj (pv 5) (aj (pv 6) au))))) (aY _))))) (aC (bQ JN)) cG)
   (ao (bC (cI (pv 7) T.bF T.pY (aip T) tb_g% T.b'29 .nil aL (aj aB (aj aB au))))
   (ao (dO (aQ pC (aF (abq T) tb_g% T.ah0 aL (aj (cI (pv 2) T.fL T.jX (abv T) tb_g% T.b'56 .nil j8 (aj (pv 5) (aj (pv 6) au))) au)) (aF (aiO T) tb_g% T.F'57 aL (aj (pv 0) (aj (pv 3) (aj (pv 5) (aj (pv 6) au))))) (aY _)) (aC (bQ JN)) cG)
   (aC (bQ (JR (aF (abw T) tb_g% T.ah1 aL (aj (pv 2) (aj (pv 5) (aj (aK bA (pv 4) aB) au)))) (JR (aF (abw T) tb_g% T.ah1 aL (aj (pv 2) (aj (pv 5) (aj (pv 5) au)))) (JQ (aF (abw T) tb_g% T.ah1 aL (aj (pv 2) (aj (aaA Q7 aB) (aj (pv 6) au))))))))))))))),?_⟩
  refine ⟨_,rfl,_,rfl,_,rfl,a,ns,k,3,n,rfl,hS,k0,by lia,by decide,by decide,by lia,?_⟩
  have fb:=jo (ns:=ns) (k:=k) (salt:=3) (many:=(n:Int)) tb_g%
  generalize cT ns k 3 n=f at fb ⊢
  refine ⟨_,rfl,_,_,rfl,rfl,_,rfl,_,rfl,_,rfl,_,rfl,_,_,rfl,rfl,a,ns,k,4,(n:Int)-f,rfl,hS,k0,by lia,by decide,by decide,by lia,_,_,rfl,rfl,?_⟩
  have eb:=jo (ns:=ns) (k:=k) (salt:=4) (many:=(n:Int)-f) tb_g%
  dsimp only
  generalize ee:f+1+cT ns k 4 ((n:Int)-f)=e
  have e1:f<e:=by lia
  have e2:e<=n:=by lia
  clear ee eb
  have btw:∀ (G:Hp),Same H G->∀ Q':V->Hp->Prop,(∀ (x:KS) (G':Hp),D5 A room reach span ns (Rn5 (Du room reach span ns) f e) (e-f).toNat G G' x->Q' (.ref x.k) G')->aln A [.ref s,.int f,.int e] G Q' E0:=fun G sG Q' h=>.inl ⟨s,ds,l,as,room,reach,span,ns,n,rows,f,e,rfl,hF.same sG,hn,r2,r15,ev,hre,hsp,fb.1,e1,e2,h⟩
  have few:(e-f).toNat<=33:=by lia
  refine ⟨_,rfl,s,ds,_,rfl,hF.o,Lq tb_g%,_,rfl,_,rfl,btw H (Same.refl _) _ fun x G D=>?_⟩
  refine ⟨_,rfl,am9 (T.Vk _ _ _ _ D.kp.o) (Ur _ _ (aou _)) ⟨_,rfl,tH ?_⟩⟩
  refine ⟨_,rfl,x,rfl,D.kp,D.kx few,fun G1 s1=>?_⟩
  have sG1:=D.sm.trans s1
  refine ⟨_,rfl,_,rfl,_,rfl,_,rfl,a,t,ns,f,e,room,reach,span,rfl,sG1.seq hS,sG1 _ _ ht,fb.1,e1,by lia,r2,r15,ev,hre,hsp,fun y G2 hy s2=>⟨rfl,_,rfl,pD (by rw [aad D.d hy]) ?_⟩⟩
  obtain ⟨m,hm,kh⟩:=D.kh
  have cm:=Ln (ns:=ns) (n:=(e-f).toNat) tb_g%
  refine ⟨_,rfl,x.k,x.dk,_,rfl,(D.kp.same (s1.trans s2)).o,kfN tb_g%,x,m,5,3,rfl,D.kp.same (s1.trans s2),kh,by lia,by decide,by decide,by decide,by decide,fun x2 G3 k3 sp3 f3 e3=>?_⟩
  have D2:=D.to (s1.trans s2) D.d rfl
  have s3:=D2.row f3
  refine ⟨_,rfl,s,ds,_,rfl,(hF.same s3).o,Lq tb_g%,_,rfl,_,rfl,btw G3 s3 _ fun x4 G4 D4=>?_⟩
  refine ⟨x4,rfl,D4.kp,D4.kx few,fun G5 s5=>?_⟩
  have sG5:=s3.trans (D4.sm.trans s5)
  refine ⟨_,rfl,_,rfl,_,rfl,_,rfl,a,t,ns,f,e,room,reach,span,rfl,sG5.seq hS,sG5 _ _ ht,fb.1,e1,by lia,r2,r15,ev,hre,hsp,fun y5 G6 hy5 s6=>⟨rfl,_,rfl,pD (by rw [aad D4.d hy5]) ?_⟩⟩
  have sG6:=sG5.trans s6
  refine ⟨_,rfl,_,rfl,_,rfl,_,_,rfl,rfl,s,ds,_,_,_,_,n,f,n+1,rfl,sG6 _ _ hF.o,.inr (.inr tb_g%),fun G7 s7=>⟨_,rfl,oG ?_⟩⟩
  have sG7:=sG6.trans s7
  refine ⟨_,rfl,_,rfl,_,rfl,s,ds,_,_,_,_,n,f,f,rfl,sG7 _ _ hF.o,.inr (.inl (dY _)),fun G8 s8=>⟨_,rfl,oG ?_⟩⟩
  have sG8:=sG7.trans s8
  exact ⟨_,rfl,_,rfl,_,rfl,s,ds,_,_,_,_,n,-1,e,rfl,sG8 _ _ hF.o,.inl (by decide),fun G9 s9=>q _ (sG8.trans s9)⟩
open MK
structure Lw (A:Ad) (H1:Hp) (s ds l:Addr) (as:List Addr) (room:Nat) (reach span:Int) (ns:List Int) (n:Nat) (rows:List (List KS)) (G:Hp):Prop where
 sm:Same H1 G
 fs:H1 s=none
 fl:H1 l=none
 fa:∀ c∈as,H1 c=none
 sf:Sf A s ds l as room reach span ns (fun i=>n / 2 ^ i) n rows G
structure Lp (A:Ad) (H1:Hp) (s ds l:Addr) (as:List Addr) (room:Nat) (reach span:Int) (ns:List Int) (n:Nat) (rows:List (List KS)) (G:Hp) (rs:List R3) (x:KS):Prop where
 w:Lw A H1 s ds l as room reach span ns n rows G
 pc:P5 A room reach span rs (fun _=>none) G x
 px:∀ b∈x.all,H1 b=none
 sx:s∉x.all
 ap:∀ y,On rows y->∀ b∈y.all,b∉x.all
section
variable {s l:Addr} {as1:List Addr} {fG:List (List KS)} {G1 G2:Hp}
theorem B5.loose (h:B5 A room reach span ns L k H0 H x):B5 A room reach span ns L k (fun _=>none) H x:=⟨(fun _ _ e=>nomatch e),h.kp,h.bl,h.kh,h.nb,h.kb,h.kw,h.rm,h.rc,h.sn,fun _ _=>rfl⟩
theorem Lw.same (h:Lw A H1 s ds l as room reach span ns n rows G) (q:Same G G1):Lw A H1 s ds l as room reach span ns n rows G1:=⟨h.sm.trans q,h.fs,h.fl,h.fa,h.sf.same q⟩
/-- a piece was made,and laid -/
theorem Lw.laid (h:Lw A H1 s ds l as room reach span ns n rows G) (p:P5 A room reach span rs G G1 x) (q:Sl A s ds l as room reach span ns (n+1) rows G1 G2 as1 fG):Lp A H1 s ds l as1 room reach span ns (n+1) fG G2 rs x:=by
 have sx:s∉x.all:=fun m=>by have:=p.fx s m;rw [h.sf.o] at this;cases this
 have f1:∀ {c:Addr},G1 c=none->H1 c=none:=fun z=>h.sm.free (p.sm.free z)
 refine ⟨⟨fun b o e=>q.fr.pb b o (p.sm _ _ (h.sm _ _ e)) (aq e h.fs) (aq e h.fl) fun m=>?_,h.fs,h.fl,fun c m=>(q.sa c m).elim (h.fa c) f1,q.sf⟩,⟨(fun _ _ e=>nomatch e),q.fr.py x p.kp sx (fun m=>?_) (fun c mc m=>h.sf.live mc (p.em c m)),p.of,p.kh,p.nb,fun _ _=>rfl,fun _ _=>rfl⟩,fun b m=>h.sm.free (p.fx b m),sx,fun y m=>?_⟩
 ·have:=h.fa b m;rw [e] at this;cases this
 ·have:=p.em l m;rw [h.sf.ll] at this;cases this
 ·rcases q.sx y m with z | z
  ·obtain ⟨_,_,g⟩:=h.sf.on z
   exact g.b.kp.off p.fx
  ·exact fun b m1 m2=>p.kp.off z b m2 m1
/-- the piece goes on -/
theorem Lp.row (h:Lp A H1 s ds l as room reach span ns n rows G rs x) (hn:rs.length<63) (ok:r.ok) (k1:Kp A G1 x') (s1:SR r x x') (f1:Far A x.pts G G1) (e1:Em G x x'):Lp A H1 s ds l as room reach span ns n rows G1 (r::rs) x':=by
 have ea:=s1.sb.all
 refine ⟨⟨fun b o e=>f1.pb b o (h.w.sm _ _ e) fun m=>?_,h.w.fs,h.w.fl,h.w.fa,h.w.sf.far h.pc.kp f1 h.sx h.ap⟩,h.pc.row hn ok k1 s1 f1 e1,by rw [ea];exact h.px,by rw [ea];exact h.sx,by rw [ea];exact h.ap⟩
 have:=h.px b (jq.mpr (.inr m))
 rw [e] at this;cases this
end
open MK
theorem aov {K:aW} {a b c:Int} (i:Nat) (x y:V) (h:[V.int a,V.int b,V.int c][i]? = some x) (g:[V.int a,V.int b,V.int c][i]? = some y):Alike K H 0 x y:=by
 rw [h] at g
 obtain rfl:=bW g
 have m:=List.mem_of_getElem? h
 simp only [cP,iW,or_false] at m
 rcases m with rfl | rfl | rfl <;> exact .flat rfl
theorem ok9 {kd:Int} (h0:0<=kd) (h2:kd<=2) (h:0<=th/\th<9):(⟨kd,th,2⟩:R3).ok:=⟨h0,h2,h.1,by show th<_;lia,by show (1:Int)<=2;decide,by show (2:Int)<=_;decide⟩
theorem ok'61 (T:Tx K mg A):cB P w K mg base CX0 17 A.af6 A.akH ["_law_script"] (ah6 K):=by
 k_dat (T.F'61.ok,u9,s0) "a"
 ·obtain ⟨a,ns,rfl,_⟩:=h
  rfl
 ·obtain ⟨a,ns,rfl,hS,len,q⟩:=h
  have mb:=rG ns
  refine ⟨_,(ao (psS 1 u9.nd (lY (aj (aK bA aB (aK lA aB (aF (oF T) tb_g% T.xX aL (aj (pv 0) (aj aB (aj aB (aj aB au))))))) (aj (aK bA aB (aF (oF T) tb_g% T.xX aL (aj (pv 0) (aj aB (aj aB (aj aB au)))))) (aj (aK bA aB (aF (oF T) tb_g% T.xX aL (aj (pv 0) (aj aB (aj aB (aj aB au)))))) au)))))
   (ao (psS 2 u9.nd (gA T.mk'69 (ok'52 T) tb_g% rfl T.ajC T.b'52 .nil aL (aj (dw (ixG (cN hr)) (pv 1) aB (fun _ _=>rfl)) (aj (dw (ixG (cN hr)) (pv 1) aB (fun _ _=>rfl)) (aj (dw (ixG (cN hr)) (pv 1) aB (fun _ _=>rfl)) au)))))
   (ao (dO (PW.pt (pw_or (aQ (anu hr.units) (lY (aj (pf 2) (aj (pf 2) (aj (pf 2) au)))) (pv 1) (aY _)) (pw_or (aQ pC (pf 2) aB (aY _)) (pw_or1 (QZ (EY (aF (abw T) tb_g% T.ah1 aL (aj (pv 2) (aj aB (aj aB au)))))))))) (aC (bQ JN)) cG)
   (ao (psS 3 u9.nd aB)
   (ao (rR jB rfl (ace rfl T.RQ (aj aB (aj (aK bA aB (aF (Vx T) tb_g% T.ac0 aL (aj (pv 0) au))) au))) (pgN 4 u9.nd) (ao (psS 5 u9.nd (aF (alg T) tb_g% T.F'51 aL (aj (pv 0) (aj (pv 4) (aj (pv 1) au)))))
   (ao (bC (cI (pv 2) T.fL T.GF (alm T) tb_g% T.b'55 .nil j8 (aj (pv 5) au)))
   (ao (psS 3 u9.nd (aK bA (pv 3) aB))
   (ao (bC (cI (pv 5) T.bF T.pY (aip T) tb_g% T.b'29 .nil aL (aj (aF (oF T) tb_g% T.xX aL (aj (pv 0) (aj (pv 4) (aj aB (aj aB au))))) (aj aB au))))
   (ao (bC (cI (pv 5) T.bF T.vI (ak0 T) tb_g% T.b'30 .nil aL (aj (aF (oF T) tb_g% T.xX aL (aj (pv 0) (aj (pv 4) (aj aB (aj aB au))))) (aj aB au))))
   (ao (bC (cI (pv 5) T.bF T.vJ (ak1 T) tb_g% T.b'31 .nil aL (aj aB au)))
   (ao (dO (PW.pt (pw_or (aQ pC (pf 2) (pv 3) (aY _)) (pw_or1 (EY (bO call_isinstance (by rfl) T.jk Mv (aj (pf 2) (aj (aiZ (v:=.ty "bool") rfl T.anw alG rfl) au))))))) (aC (bQ JN)) cG)
   (ao (psS 6 u9.nd (JR (dw (ixG (cN hr)) (dR (aj (yp lN (aK iU (pv 3) aB) aB (aY _)) (aj JN au))) (ji M9 (by rfl) T.akL afi (aj (yp vC (aF (Vx T) tb_g% T.ac0 aL (aj (pv 0) au)) aB (aY _)) au)) (fun _ _=>rfl)) (JQ (yp vC (aF (Vx T) tb_g% T.ac0 aL (aj (pv 0) au)) aB (aY _)))))
   (aC (dO (PW.pt (pw_and (EY (pv 6)) (pw_and1 (QZ (EY (aF (ok'60 T) tb_g% T.F'60 aL (aj (pv 0) (aj (pv 4) (aj (pv 2) (aj (pv 1) (aj (pv 3) au))))))))))) (aC (bQ JN)) cG)))))))))))
   (ao (psS 7 u9.nd (dR (aj (lY (aj (aK bA (dw (ixG (cN hr)) (pv 1) aB (fun _ _=>rfl)) aB) (aj (dw (ixG (cN hr)) (pv 1) aB (fun _ _=>rfl)) (aj (dw (ixG (cN hr)) (pv 1) aB (fun _ _=>rfl)) au)))) (aj (lY (aj (dw (ixG (cN hr)) (pv 1) aB (fun _ _=>rfl)) (aj (aK bA (dw (ixG (cN hr)) (pv 1) aB (fun _ _=>rfl)) aB) (aj (dw (ixG (cN hr)) (pv 1) aB (fun _ _=>rfl)) au)))) (aj (lY (aj (dw (ixG (cN hr)) (pv 1) aB (fun _ _=>rfl)) (aj (dw (ixG (cN hr)) (pv 1) aB (fun _ _=>rfl)) (aj (aK bA (dw (ixG (cN hr)) (pv 1) aB (fun _ _=>rfl)) aB) au)))) au)))))
   (ao (dO (PW.pt (pw_or (QZ (EY (aF (ok'59 T) tb_g% T.F'59 aL (aj (pv 2) (aj (dw (ixG (cN hr)) (pv 7) (aF (oF T) tb_g% T.xX aL (aj (pv 0) (aj aB (aj aB (aj aB au))))) (fun _ _=>rfl)) au))))) (pw_or1 (aQ pC (pf 2) (pv 3) (aY _))))) (aC (bQ JN)) cG)
   (aC (bQ (pe_or (yp lN (pv 3) aB (aY _)) (JQ (yp lN (aF (abq T) tb_g% T.ah0 aL (aj (cI (pv 2) T.fL T.jX (abv T) tb_g% T.b'56 .nil j8 (aj aB (aj (pv 3) au))) au)) (aF (aiO T) tb_g% T.F'57 aL (aj (pv 0) (aj (pv 1) (aj aB (aj (pv 3) au))))) (aY _))))))))))))),?_⟩
  refine ⟨_,rfl,a,ns,0,1,3,rfl,hS,by decide,by decide,by decide,by decide,by decide,_,_,rfl,rfl,.inl ⟨by decide,by decide⟩,_,_,rfl,rfl,_,rfl,a,ns,0,2,60,rfl,hS,by decide,by decide,by decide,by decide,by decide,_,_,rfl,rfl,_,rfl,a,ns,1,1,20,rfl,hS,by decide,by decide,by decide,by decide,by decide,_,_,rfl,rfl,(by show 3<=sizeLine;decide),fun t ht=>?_⟩
  have b1:=jo (ns:=ns) (k:=0) (salt:=1) (many:=3) (by decide)
  have b2:=jo (ns:=ns) (k:=0) (salt:=2) (many:=60) (by decide)
  have b3:=jo (ns:=ns) (k:=1) (salt:=1) (many:=20) (by decide)
  dsimp only
  obtain ⟨room,er⟩:∃ room:Nat,2+2*cT ns 0 1 3=room:=⟨(2+2*cT ns 0 1 3).toNat,(zR tb_g%).symm⟩
  have r2:2<=room:=by lia
  have r15:room<=15:=by lia
  have ev:room % 2=0:=by lia
  rw [er]
  have hre:Th (1+cT ns 0 2 60):=⟨by lia,by lia⟩
  have hsp:Th (1+cT ns 1 1 20):=⟨by lia,by lia⟩
  generalize 1+cT ns 0 2 60=reach at hre ⊢
  generalize 1+cT ns 1 1 20=span at hsp ⊢
  clear er b1 b2 b3
  have s1:=Same.new (o:=.tup [.int room,.int reach,.int span]) ht
  have ht1:(upd H t (.tup [.int room,.int reach,.int span])) t=some (.tup [.int room,.int reach,.int span]):=ak
  generalize upd H t (.tup [.int room,.int reach,.int span])=H1 at s1 ht1 ⊢
  have hS1:=s1.seq hS
  refine ⟨_,rfl,gB (.inl (.inl ht1)) (v:=.int room) rfl ⟨_,rfl,gB (.inl (.inl ht1)) (v:=.int reach) rfl ⟨_,rfl,gB (.inl (.inl ht1)) (v:=.int span) rfl fun s ds n1 n2 n3=>?_⟩⟩⟩
  refine ⟨s,ds,room,reach,span,rfl,ak,fun l H2 hl o2 l2 bt=>⟨rfl,?_⟩⟩
  have up2:Same H1 (upd (upd H1 ds (.own s)) s (.ins A.iT ds [])):=fun b o e=>by rw [aA (aq e n1),aA (aq e n2)];exact e
  have W0:Lw A H1 s ds l [] room reach span ns 0 [] H2:=⟨fun b o e=>bt b o (up2 b o e) (aq e n1),n1,up2.free hl,(fun c m=>nomatch m),⟨o2,l2,rfl,g8.mpr ⟨iW,oR⟩,(fun i a r e=>by cases e),(fun i r e=>by cases e),fun i _=>Nat.zero_div _⟩⟩
  refine ⟨_,rfl,rdF o2 T.fL T.K1 (VF ..) ⟨_,rfl,rdF o2 T.fL T.K4 (Om ..) ⟨_,rfl,rdF o2 T.fL T.K5 (VG ..) ⟨(by show 3<=sizeLine;decide),fun u hu=>?_⟩⟩⟩⟩
  have s3:=Same.new (o:=.tup [.int room,.int reach,.int span]) hu
  refine ⟨_,rfl,1,u,t,rfl,rfl,by decide,.tup (.inl (.inl ak)) (.inl (.inl (s3 _ _ (W0.sm _ _ ht1)))) rfl aov,_,rfl,tH ?_⟩
  have W1:=W0.same s3
  generalize upd H2 u (.tup [.int room,.int reach,.int span])=H3 at W1 ⊢
  clear n1 n2 n3 hl o2 l2 bt up2 W0 hu s3
  refine ⟨_,rfl,rdF W1.sf.o T.fL T.pW (ql ..) ⟨rfl,_,rfl,pD rfl ?_⟩⟩
  refine ⟨_,rfl,s,ds,_,_,_,_,0,0,1,rfl,W1.sf.o,.inr (.inr (by decide)),fun H4 s4=>⟨_,rfl,tH ?_⟩⟩
  have W2:=W1.same s4
  refine sq fun R0 hR0=>hR0 _ _ ?_
  clear W1 s4
  obtain ⟨M,eM⟩:∃ M:Nat,fM ns=M:=⟨(fM ns).toNat,(zR mb.1).symm⟩
  refine ⟨_,rfl,a,ns,rfl,W2.sm.seq hS1,_,_,rfl,rfl,2,2+fM ns,rfl,⟨by lia,by lia,by lia,by lia⟩,?_⟩
  rw [show (2+fM ns-2).toNat=M by lia]
  refine Fi (n:=M) (fun i σ G=>∃ (as1:List Addr) (fG:List (List KS)) (y4 y5 y6:Option V),σ=[some (.ref a),some (.ref t),some (.ref s),some (.int i),y4,y5,y6,none]/\Lw A H1 s ds l as1 room reach span ns i fG G) ⟨[],[],none,none,none,rfl,W2⟩ ?_ ?_
  ·rintro i σ G hi ⟨as1,fG,y4,y5,y6,rfl,W⟩
   refine ⟨_,rfl,_,rfl,_,rfl,a,t,ns,2+i,room,reach,span,rfl,W.sm.seq hS1,by lia,by lia,W.sm _ _ ht1,r2,r15,ev,hre,hsp,fun x G1 P=>?_⟩
   refine ⟨_,rfl,s,ds,_,rfl,(W.sf.same P.sm).o,Lq tb_g%,_,rfl,.inl ⟨s,ds,l,as1,room,reach,span,ns,i,fG,x,rfl,W.sf.same P.sm,P.b5.loose,by lia,r2,r15,ev,fun as2 uf G2 L=>?_⟩⟩
   have X:=W.laid P L
   have ln:(m9 ns (2+(i:Int)) (qj ns (2+(i:Int))).toNat).length<=4:=by rw [yK];have:=Li ns (2+(i:Int));lia
   generalize m9 ns (2+(i:Int)) (qj ns (2+(i:Int))).toNat=rs at X ln
   clear P L W
   refine ⟨_,rfl,_,_,rfl,rfl,?_⟩
   have o5:(⟨0,cT ns (2+(i:Int)) 5 9,2⟩:R3).ok:=ok9 (by decide) (by decide) (jo (by decide))
   have o6:(⟨1,cT ns (2+(i:Int)) 6 9,2⟩:R3).ok:=ok9 (by decide) (by decide) (jo (by decide))
   refine ⟨_,rfl,x.k,x.dk,_,rfl,X.pc.kp.o,kfN tb_g%,_,rfl,_,rfl,a,ns,2+i,5,9,rfl,X.w.sm.seq hS1,by lia,by lia,by decide,by decide,by decide,x,_,_,2,rfl,X.pc.kp,X.pc.kh,by lia,o5.t0,o5.t1,by decide,by decide,fun x3 G3 k3 p3 f3 e3=>?_⟩
   have X3:=X.row tb_g% o5 k3 p3 f3 e3
   refine ⟨_,rfl,x.k,x3.dk,_,rfl,(by rw [<- p3.sb.k];exact X3.pc.kp.o),kfN tb_g%,_,rfl,_,rfl,a,ns,2+i,6,9,rfl,X3.w.sm.seq hS1,by lia,by lia,by decide,by decide,by decide,x3,_,_,2,by rw [p3.sb.k];rfl,X3.pc.kp,X3.pc.kh,by simp only [dH];lia,o6.t0,o6.t1,by decide,by decide,fun x4 G4 k4 p4 f4 e4=>?_⟩
   have X4:=X3.row (by simp only [dH];lia) o6 k4 p4 f4 e4
   refine ⟨_,rfl,x.k,x4.dk,_,rfl,(by rw [<- p3.sb.k,<- p4.sb.k];exact X4.pc.kp.o),kfN tb_g%,x4,_,1,by rw [p4.sb.k,p3.sb.k];rfl,X4.pc.kp,X4.pc.kh,fun x5 G5 k5 p5 f5 e5=>?_⟩
   have X5:=(X4.row (r:=⟨2,0,1⟩) (by simp only [dH];lia) ⟨by decide,by decide,by decide,by decide,by decide,by decide⟩ k5 p5 f5 e5).w
   clear X X3 X4 p3 p4 p5 f3 f4 f5 e3 e4 e5 k3 k4 k5 ln
   refine ⟨_,rfl,rdF X5.sf.o T.fL T.pW (ql ..) ⟨_,rfl,rfl,_,rfl,pD rfl ?_⟩⟩
   refine ⟨_,rfl,rdF X5.sf.o T.fL T.pW (ql ..) (am8 T.ZS ⟨_,rfl,tH ?_⟩)⟩
   refine sq fun R1 hR1=>hR1 _ _ (sq fun R2 hR2=>?_)
   have key:∀ (b:Bool) (G6:Hp),Same G5 G6->R2 [some (.ref a),some (.ref t),some (.ref s),some (.int ((i:Int)+1)),some (.int (2+(i:Int))),some (.ref x.k),some (.bl b),none] G6:=by
    intro b G6 s6
    refine hR2 _ _ ?_
    have X6:=X5.same s6
    cases b with
    | false=>exact ⟨_,rfl,_,rfl,tH (tH ⟨as2,uf,_,_,_,rfl,X6⟩)⟩
    | true=>exact ⟨_,rfl,_,rfl,oG ⟨_,rfl,_,rfl,_,rfl,_,rfl,_,rfl,a,t,s,ds,l,as2,ns,2+i,room,reach,span,i+1,uf,rfl,X6.sm.seq hS1,X6.sm _ _ ht1,by lia,by lia,X6.sf,by lia,by lia,r2,r15,ev,hre,hsp,fun G7 s7=>⟨_,rfl,tH ⟨as2,uf,_,_,_,rfl,X6.same s7⟩⟩⟩⟩
   have hS5:=X5.sm.seq hS1
   refine ⟨_,rfl,_,_,rfl,rfl,(by show (0:Int)<8;decide),rfl,(by show 2<=sizeLine;decide),fun z hz=>?_⟩
   have s6:∀ o,Same G5 (upd G5 z o):=fun o=>Same.new hz
   refine ⟨_,rfl,a,ns,rfl,(s6 _).seq hS5,_,_,rfl,rfl,.inr ⟨_,rfl,?_⟩⟩
   by_cases h10:fM ns<10
   ·rw [if_pos (decide_eq_true h10)]
    refine lO (.inl (.inl ak)) (v:=.bl true) rfl ⟨_,rfl,oG ?_⟩
    exact ⟨_,rfl,a,ns,rfl,(s6 _).seq hS5,_,_,rfl,rfl,key _ _ (s6 _)⟩
   ·rw [if_neg fun z=>h10 (of_decide_eq_true z)]
    refine lO (.inl (.inl ak)) rfl ⟨_,rfl,fH (fun h=>?_) (fun h=>?_)⟩
    ·exact ⟨_,rfl,a,ns,rfl,(s6 _).seq hS5,_,_,rfl,rfl,key _ _ (s6 _)⟩
    ·exact key _ _ (s6 _)
  ·rintro σ G ⟨as1,fG,y4,y5,y6,rfl,W⟩
   have ht2:=W.sm _ _ ht1
   refine ⟨_,rfl,gB (.inl (.inl ht2)) (v:=.int room) rfl ⟨_,_,rfl,rfl,_,rfl,gB (.inl (.inl ht2)) (v:=.int reach) rfl ⟨_,rfl,gB (.inl (.inl ht2)) (v:=.int span) rfl ⟨(by show 3<=sizeLine;decide),fun t1 h1=>?_⟩⟩⟩⟩
   have q1:=Same.new (o:=.tup [.int ((room:Int)+2),.int reach,.int span]) h1
   have g1:(upd G t1 (.tup [.int ((room:Int)+2),.int reach,.int span])) t1=some (.tup [.int ((room:Int)+2),.int reach,.int span]):=ak
   dsimp only
   generalize upd G t1 (.tup [.int ((room:Int)+2),.int reach,.int span])=G1 at q1 g1 ⊢
   have ht3:=q1 _ _ ht2
   refine ⟨_,rfl,gB (.inl (.inl ht3)) (v:=.int room) rfl ⟨_,rfl,gB (.inl (.inl ht3)) (v:=.int reach) rfl ⟨_,_,rfl,rfl,_,rfl,gB (.inl (.inl ht3)) (v:=.int span) rfl ⟨(by show 3<=sizeLine;decide),fun t2 h2=>?_⟩⟩⟩⟩
   have q2:=Same.new (o:=.tup [.int room,.int (reach+1),.int span]) h2
   have g2:(upd G1 t2 (.tup [.int room,.int (reach+1),.int span])) t2=some (.tup [.int room,.int (reach+1),.int span]):=ak
   dsimp only
   generalize upd G1 t2 (.tup [.int room,.int (reach+1),.int span])=G2 at q2 g2 ⊢
   have ht4:=q2 _ _ ht3
   refine ⟨_,rfl,gB (.inl (.inl ht4)) (v:=.int room) rfl ⟨_,rfl,gB (.inl (.inl ht4)) (v:=.int reach) rfl ⟨_,rfl,gB (.inl (.inl ht4)) (v:=.int span) rfl ⟨_,_,rfl,rfl,(by show 3<=sizeLine;decide),fun t3 h3=>?_⟩⟩⟩⟩
   have q3:=Same.new (o:=.tup [.int room,.int reach,.int (span+1)]) h3
   have g3:(upd G2 t3 (.tup [.int room,.int reach,.int (span+1)])) t3=some (.tup [.int room,.int reach,.int (span+1)]):=ak
   dsimp only
   generalize upd G2 t3 (.tup [.int room,.int reach,.int (span+1)])=G3 at q3 g3 ⊢
   refine ⟨(by show 3<=sizeLine;decide),fun z hz=>?_⟩
   have q4:=Same.new (o:=.lst [.ref t1,.ref t2,.ref t3]) hz
   have g4:(upd G3 z (.lst [.ref t1,.ref t2,.ref t3])) z=some (.lst [.ref t1,.ref t2,.ref t3]):=ak
   generalize upd G3 z (.lst [.ref t1,.ref t2,.ref t3])=G4 at q4 g4 ⊢
   have W4:=W.same (q1.trans (q2.trans (q3.trans q4)))
   have k1:=(q2.trans (q3.trans q4)) _ _ g1
   have k2:=(q3.trans q4) _ _ g2
   have k3:=q4 _ _ g3
   have sb:=jo (ns:=ns) (k:=1) (salt:=2) (many:=3) (by decide)
   obtain ⟨u,rm,rc,sn,eu,gu,m2,m64,me,hd⟩:∃ (u:Addr) (rm:Nat) (rc sn:Int),atI [V.ref t1,V.ref t2,V.ref t3] (cT ns 1 2 3)=some (V.ref u)/\G4 u=some (.tup [.int rm,.int rc,.int sn])/\2<=rm/\rm<=64/\rm % 2=0/\(room≠rm\/reach≠rc\/span≠sn):=by
    rcases (show cT ns 1 2 3=0\/cT ns 1 2 3=1\/cT ns 1 2 3=2 by lia) with e | e | e
    ·rw [e];exact ⟨t1,room+2,reach,span,rfl,k1,by lia,by lia,by lia,.inl tb_g%⟩
    ·rw [e];exact ⟨t2,room,reach+1,span,rfl,k2,by lia,by lia,by lia,.inr (.inl tb_g%)⟩
    ·rw [e];exact ⟨t3,room,reach,span+1,rfl,k3,by lia,by lia,by lia,.inr (.inr tb_g%)⟩
   refine ⟨_,rfl,_,rfl,_,rfl,a,ns,1,2,3,rfl,W4.sm.seq hS1,by decide,by decide,by decide,by decide,by decide,lO (.inl (.inl g4)) eu ⟨s,ds,u,_,_,room,rm,reach,span,rc,sn,rfl,W4.sf.o,gu,r2,by lia,ev,m2,m64,me,hd,fun G5 s5=>⟨_,rfl,tH ?_⟩⟩⟩
   have W5:=W4.same s5
   refine ⟨_,rfl,rdF W5.sf.o T.fL T.pW (ql ..) ⟨_,rfl,rfl,_,rfl,pD rfl ?_⟩⟩
   refine ⟨_,rfl,rfl,_,rfl,fH (fun h=>q _) (fun h=>?_)⟩
   have h:¬ (M:Int)=0:=fun z=>h (decide_eq_true (congrArg V.int z))
   refine ⟨_,rfl,s,ds,_,rfl,W5.sf.o,Lq tb_g%,_,rfl,.inl ⟨s,ds,l,as1,room,reach,span,ns,M,fG,0,M,rfl,W5.sf,by lia,r2,r15,ev,hre,hsp,dY _,by lia,dY _,fun x G6 D=>?_⟩⟩
   refine ⟨x,rfl,D.kp,D.kx tb_g%,fun G7 s7=>?_⟩
   have s67:=W5.sm.trans (D.sm.trans s7)
   refine ⟨_,rfl,_,rfl,_,rfl,a,t,ns,0,M,room,reach,span,rfl,s67.seq hS1,s67 _ _ ht1,dY _,by lia,by lia,r2,r15,ev,hre,hsp,fun y G8 hy s8=>⟨rfl,?_⟩⟩
   rw [aad D.d hy]
   rw [decide_eq_true rfl]
   exact q _
theorem Gg {K:aW} {x:Str} {f:Addr} (F:Fun K x q st f fd) (h:∀ (kV dc pm:Value) (an:Option Addr) (cd ct u0:Value),zG (lV x q (kZ st) (jg st) (aG st) .none kV dc pm an cd ct) ⟨[u0],[]⟩=pure [(p0,u0)]):Binds K fd [p0] [] :=
 F.binds fun _ _ _ _ _ _ us hl=>match us,hl with | [u0],_=>h _ _ _ _ _ _ u0
theorem jK {K:aW} {x:Str} {f:Addr} (F:Fun K x q st f fd) (h:∀ (kV dc pm:Value) (an:Option Addr) (cd ct u0 u1:Value),zG (lV x q (kZ st) (jg st) (aG st) .none kV dc pm an cd ct) ⟨[u0,u1],[]⟩=pure [(p0,u0),(p1,u1)]):Binds K fd [p0,p1] [] :=
 F.binds fun _ _ _ _ _ _ us hl=>match us,hl with | [u0,u1],_=>h _ _ _ _ _ _ u0 u1
theorem Hu {K:aW} {x:Str} {f:Addr} {p2:Str} (F:Fun K x q st f fd) (h:∀ (kV dc pm:Value) (an:Option Addr) (cd ct u0 u1 u2:Value),zG (lV x q (kZ st) (jg st) (aG st) .none kV dc pm an cd ct) ⟨[u0,u1,u2],[]⟩=pure [(p0,u0),(p1,u1),(p2,u2)]):Binds K fd [p0,p1,p2] [] :=
 F.binds fun _ _ _ _ _ _ us hl=>match us,hl with | [u0,u1,u2],_=>h _ _ _ _ _ _ u0 u1 u2
theorem aiQ {K:aW} {x:Str} {f:Addr} {p2 p3:Str} (F:Fun K x q st f fd) (h:∀ (kV dc pm:Value) (an:Option Addr) (cd ct u0 u1 u2 u3:Value),zG (lV x q (kZ st) (jg st) (aG st) .none kV dc pm an cd ct) ⟨[u0,u1,u2,u3],[]⟩=pure [(p0,u0),(p1,u1),(p2,u2),(p3,u3)]):Binds K fd [p0,p1,p2,p3] [] :=
 F.binds fun _ _ _ _ _ _ us hl=>match us,hl with | [u0,u1,u2,u3],_=>h _ _ _ _ _ _ u0 u1 u2 u3
theorem bOf5 {K:aW} {x:Str} {f:Addr} {p2 p3 p4:Str} (F:Fun K x q st f fd) (h:∀ (kV dc pm:Value) (an:Option Addr) (cd ct u0 u1 u2 u3 u4:Value),zG (lV x q (kZ st) (jg st) (aG st) .none kV dc pm an cd ct) ⟨[u0,u1,u2,u3,u4],[]⟩=pure [(p0,u0),(p1,u1),(p2,u2),(p3,u3),(p4,u4)]):Binds K fd [p0,p1,p2,p3,p4] [] :=
 F.binds fun _ _ _ _ _ _ us hl=>match us,hl with | [u0,u1,u2,u3,u4],_=>h _ _ _ _ _ _ u0 u1 u2 u3 u4
theorem LK.fn {K:aW} {n:Str} {s:Stmt} {f:Addr} (h:LK K n q s f):∃ fd,Fun K n q s f fd:=by
 obtain ⟨oc,od,an,sl,kV,dc,pm,cd,ct,l,c,k⟩:=h
 exact ⟨_,am2 l c k⟩
noncomputable def fdOf {K:aW} {n q:Str} {s:Stmt} {f:Addr} (h:LK K n q s f):FuncData:=afH h.fn
theorem cJ {K:aW} {n:Str} {s:Stmt} {f:Addr} (h:LK K n q s f):Fun K n q s f (fdOf h):=afG h.fn
theorem CK.cl {K:aW} {C:Addr} (h:CK K C):Cls K C:=⟨h.1,h.2.1,h.2.2.1,h.2.2.2.1⟩
theorem CK.mk {K:aW} {C f:Addr} {s:Stmt} (h:CK K C) (m:MeK K C "__init__" q s f):Mk K C f:=⟨h.2.2.2.2.1,m.1,m.2.1,h.2.2.2.2.2⟩
theorem MeK.mt {K:aW} {C f:Addr} {n:Str} {s:Stmt} (m:MeK K C n q s f) (F:Fun K n q s f fd):Meth K C n f:=⟨m.1,m.2.1,F.kp⟩
theorem gOf {K:aW} {h:Heap} {mg:Str->Option Value} {x:Str} {f:Addr} {ps:List Str} (X:K.In h) (G:h.Ns dI mg) (a:GK K x st f) (b:Fun K x x st f (fdOf a.2)->Binds K (fdOf a.2) ps []):Fg K mg x st f (fdOf a.2) ps:=⟨cJ a.2,b (cJ a.2),kE X G a.1⟩
noncomputable def RR (w:World) (K:aW) (mg:Str->Option Value) (fa:Addr):Prop:=∃ fd:FuncData,(∀ (s:Shared) (v:Value),Ec s fd ⟨[v],[]⟩ [("_law_script",v)])/\∀ base:Heap,K.In base->base.Ns dI mg->cB Gk.prog w K mg base CX0 17 fa fd ["_law_script"] (ah6 K)
theorem all_mk:af5 RR:=by
 intro w K h mg fa cX iR iD iG uD fZ iT iz ju zY Ew Ey Ez f'0 f'1 f'2 f'3 f'4 f'5 f'6 f'7 f'8 f'9 SQ Yt Yu Yv abB abC SX abD Yw Yx S5 abE abF Yy Yz abG S6 YB YC YD YF YG S7 abH abI abJ abK abL abM abN abO abP abQ abR abS abT abU abV abW abX abY abZ S8 YH YJ YK YL ab0 ab1 ab2 ab3 af6 QJ X G hfa aaj wQ Bd aak tD yh aal mQ qz aam mR qC aan pA uE aao kJ qD aap wR Bf qF qG qH qI aaq aar aas aat aau aav iZ jh gn gq gw d9 eE eF qJ qK qL qM qN qO qP qQ qR jL jM jN jO jP jQ jR jT jU cQ fO iI oM a'0 a'1 a'2 a'3 a'4 a'5 a'6 a'7 a'8 a'9 QK S9 Tc Td af7 af8 QL af9 Te Tf QM aga agb Tg Ti agc QS Tj Tn Tp Tq Tr QT agd agf agg agh agi agj agk agl agm agn ago agp agq agr ags agt agu agv agw QV Tt Tv Tw Tz agx agy agz agA TF agB zk aaw QW tE jV TJ Hv tG jW Mz Bg
 have e:=hfa.symm.trans (kE X G TF.1)
 cases e
 obtain ⟨BR,za,BW,BX,qY,BZ,Ca,zc,_⟩:=Bd
 obtain ⟨Cd,Ce,oE,Cg,_⟩:=yh
 obtain ⟨Ci,Cj,vH,Ck,_⟩:=qz
 obtain ⟨Cm,Cp,Cq,Cr,_⟩:=qC
 obtain ⟨Gz,xO,_⟩:=uE
 obtain ⟨Cu,Cv,pU,xP,xQ,xR,xT,sV,sW,uW,_⟩:=qD
 obtain ⟨K1,K4,K5,pW,Al,_⟩:=Bf
 obtain ⟨z_abs,aow,aox,z_int,SN,z_len,aoy,z_max,z_min,ako,aae,z_set,aiR,z_str,z_zip,_⟩:=zk
 have T:Tx K mg ⟨cX,iR,iD,iG,uD,fZ,iT,iz,ju,zY,Ew,Ey,Ez,f'0,fdOf a'0.2,f'1,fdOf a'1.2,f'2,fdOf a'2.2,f'3,fdOf a'3.2.2,f'4,fdOf a'4.2.2,f'5,fdOf a'5.2,f'6,fdOf a'6.2,f'7,fdOf a'7.2.2,f'8,fdOf a'8.2.2,f'9,fdOf a'9.2,SQ,fdOf QK.2.2,Yt,fdOf S9.2.2,Yu,fdOf Tc.2.2,Yv,fdOf Td.2.2,abB,fdOf af7.2,abC,fdOf af8.2,SX,fdOf QL.2.2,abD,fdOf af9.2,Yw,fdOf Te.2.2,Yx,fdOf Tf.2.2,S5,fdOf QM.2.2,abE,fdOf aga.2,abF,fdOf agb.2,Yy,fdOf Tg.2.2,Yz,fdOf Ti.2.2,abG,fdOf agc.2,S6,fdOf QS.2.2,YB,fdOf Tj.2.2,YC,fdOf Tn.2.2,YD,fdOf Tp.2.2,YF,fdOf Tq.2.2,YG,fdOf Tr.2.2,S7,fdOf QT.2.2,abH,fdOf agd.2,abI,fdOf agf.2,abJ,fdOf agg.2,abK,fdOf agh.2,abL,fdOf agi.2,abM,fdOf agj.2,abN,fdOf agk.2,abO,fdOf agl.2,abP,fdOf agm.2,abQ,fdOf agn.2,abR,fdOf ago.2,abS,fdOf agp.2,abT,fdOf agq.2,abU,fdOf agr.2,abV,fdOf ags.2,abW,fdOf agt.2,abX,fdOf agu.2,abY,fdOf agv.2,abZ,fdOf agw.2,S8,fdOf QV.2.2,YH,fdOf Tt.2.2,YJ,fdOf Tv.2.2,YK,fdOf Tw.2.2,YL,fdOf Tz.2.2,ab0,fdOf agx.2,ab1,fdOf agy.2,ab2,fdOf agz.2,ab3,fdOf agA.2,fa,fdOf TF.2,QJ,fdOf agB.2⟩:=⟨wQ.cl,kE X G aaj,wQ.mk a'7,BR,za,BW,BX,qY,BZ,Ca,zc,tD.cl,kE X G aak,tD.mk QK,Cd,Ce,oE,Cg,mQ.cl,kE X G aal,mQ.mk QL,Ci,Cj,vH,Ck,mR.cl,kE X G aam,mR.mk QM,Cm,Cp,Cq,Cr,pA.cl,kE X G aan,pA.mk QS,Gz,xO,kJ.cl,kE X G aao,kJ.mk QT,Cu,Cv,pU,xP,xQ,xR,xT,sV,sW,uW,wR.cl,kE X G aap,wR.mk QV,K1,K4,K5,pW,Al,fun H a dx fs e=>.ins e kJ.cl qF qG qH qI,kE X G aaq,kE X G aar,kE X G aas,kE X G aat,kE X G aau,kE X G aav,iZ,jh,⟨gn,gq,gw⟩,⟨d9,eE,eF⟩,⟨qJ,qK,qL,qQ,qR,qM,qN,qP,qO⟩,⟨jL,jM,jN,jT,jU,jO,jP,jR,jQ⟩,cQ,fO,iI,oM,gOf X G a'0 fun F=>Hu F (by intros;rfl),gOf X G a'1 fun F=>Gg F (by intros;rfl),gOf X G a'2 fun F=>jK F (by intros;rfl),cJ a'3.2.2,jK (cJ a'3.2.2) (by intros;rfl),a'3.mt (cJ a'3.2.2),cJ a'4.2.2,jK (cJ a'4.2.2) (by intros;rfl),a'4.mt (cJ a'4.2.2),gOf X G a'5 fun F=>jK F (by intros;rfl),gOf X G a'6 fun F=>jK F (by intros;rfl),cJ a'7.2.2,jK (cJ a'7.2.2) (by intros;rfl),a'7.mt (cJ a'7.2.2),cJ a'8.2.2,Hu (cJ a'8.2.2) (by intros;rfl),a'8.mt (cJ a'8.2.2),gOf X G a'9 fun F=>jK F (by intros;rfl),cJ QK.2.2,Hu (cJ QK.2.2) (by intros;rfl),QK.mt (cJ QK.2.2),cJ S9.2.2,jK (cJ S9.2.2) (by intros;rfl),S9.mt (cJ S9.2.2),cJ Tc.2.2,jK (cJ Tc.2.2) (by intros;rfl),Tc.mt (cJ Tc.2.2),cJ Td.2.2,jK (cJ Td.2.2) (by intros;rfl),Td.mt (cJ Td.2.2),gOf X G af7 fun F=>Gg F (by intros;rfl),gOf X G af8 fun F=>Gg F (by intros;rfl),cJ QL.2.2,jK (cJ QL.2.2) (by intros;rfl),QL.mt (cJ QL.2.2),gOf X G af9 fun F=>jK F (by intros;rfl),cJ Te.2.2,jK (cJ Te.2.2) (by intros;rfl),Te.mt (cJ Te.2.2),cJ Tf.2.2,jK (cJ Tf.2.2) (by intros;rfl),Tf.mt (cJ Tf.2.2),cJ QM.2.2,jK (cJ QM.2.2) (by intros;rfl),QM.mt (cJ QM.2.2),gOf X G aga fun F=>jK F (by intros;rfl),gOf X G agb fun F=>jK F (by intros;rfl),cJ Tg.2.2,jK (cJ Tg.2.2) (by intros;rfl),Tg.mt (cJ Tg.2.2),cJ Ti.2.2,Hu (cJ Ti.2.2) (by intros;rfl),Ti.mt (cJ Ti.2.2),gOf X G agc fun F=>Hu F (by intros;rfl),cJ QS.2.2,jK (cJ QS.2.2) (by intros;rfl),QS.mt (cJ QS.2.2),cJ Tj.2.2,Hu (cJ Tj.2.2) (by intros;rfl),Tj.mt (cJ Tj.2.2),cJ Tn.2.2,Hu (cJ Tn.2.2) (by intros;rfl),Tn.mt (cJ Tn.2.2),cJ Tp.2.2,Hu (cJ Tp.2.2) (by intros;rfl),Tp.mt (cJ Tp.2.2),cJ Tq.2.2,Hu (cJ Tq.2.2) (by intros;rfl),Tq.mt (cJ Tq.2.2),cJ Tr.2.2,jK (cJ Tr.2.2) (by intros;rfl),Tr.mt (cJ Tr.2.2),cJ QT.2.2,aiQ (cJ QT.2.2) (by intros;rfl),QT.mt (cJ QT.2.2),gOf X G agd fun F=>jK F (by intros;rfl),gOf X G agf fun F=>jK F (by intros;rfl),gOf X G agg fun F=>jK F (by intros;rfl),gOf X G agh fun F=>jK F (by intros;rfl),gOf X G agi fun F=>jK F (by intros;rfl),gOf X G agj fun F=>jK F (by intros;rfl),gOf X G agk fun F=>Gg F (by intros;rfl),gOf X G agl fun F=>jK F (by intros;rfl),gOf X G agm fun F=>Gg F (by intros;rfl),gOf X G agn fun F=>Gg F (by intros;rfl),gOf X G ago fun F=>Gg F (by intros;rfl),gOf X G agp fun F=>Gg F (by intros;rfl),gOf X G agq fun F=>Gg F (by intros;rfl),gOf X G agr fun F=>Gg F (by intros;rfl),gOf X G ags fun F=>jK F (by intros;rfl),gOf X G agt fun F=>jK F (by intros;rfl),gOf X G agu fun F=>aiQ F (by intros;rfl),gOf X G agv fun F=>Gg F (by intros;rfl),gOf X G agw fun F=>Hu F (by intros;rfl),cJ QV.2.2,aiQ (cJ QV.2.2) (by intros;rfl),QV.mt (cJ QV.2.2),cJ Tt.2.2,Gg (cJ Tt.2.2) (by intros;rfl),Tt.mt (cJ Tt.2.2),cJ Tv.2.2,jK (cJ Tv.2.2) (by intros;rfl),Tv.mt (cJ Tv.2.2),cJ Tw.2.2,jK (cJ Tw.2.2) (by intros;rfl),Tw.mt (cJ Tw.2.2),cJ Tz.2.2,Hu (cJ Tz.2.2) (by intros;rfl),Tz.mt (cJ Tz.2.2),gOf X G agx fun F=>aiQ F (by intros;rfl),gOf X G agy fun F=>Hu F (by intros;rfl),gOf X G agz fun F=>jK F (by intros;rfl),gOf X G agA fun F=>bOf5 F (by intros;rfl),gOf X G TF fun F=>Gg F (by intros;rfl),gOf X G agB fun F=>aiQ F (by intros;rfl),oY X G z_abs,oY X G aow,oY X G aox,oY X G z_int,oY X G SN,oY X G z_len,oY X G aoy,oY X G z_max,oY X G z_min,oY X G ako,oY X G aae,oY X G z_set,oY X G aiR,oY X G z_str,oY X G z_zip,⟨_,kE X G QW,_,rfl⟩,⟨_,kE X G jV,_,rfl⟩,⟨_,kE X G Hv,_,rfl⟩,⟨_,kE X G jW,_,rfl⟩,⟨_,kE X G Bg,_,rfl⟩,Ur _ _ (by decide),ana (by decide) tb_g% tb_g%⟩
 refine ⟨fdOf TF.2,fun s v=>?_,fun base _ _=>ok'61 T⟩
 obtain ⟨_,_,_,_,_,_,_,_,_,e,_⟩:=(cJ TF.2).ex
 rw [e];exact .of_eq rfl
theorem walk {q:aP} {loose:List Str} {XP:(Str->Option Value)->Heap->Prop} {YP:World->Heap->Prop} {d:PB} {K:Ed->aW} (hn:Gk.most=some 63) (hdf:d.params.defaults=[]) (hY:∀ (w:World) (h:Heap),YP w h->(K w.params).In h) (F:∀ (w:World) (mg:Str->Option Value) (fa:Addr) (h:Heap),(K w.params).In h->h.Ns dI mg->mg d.name=some (.ref fa)->RR w (K w.params) mg fa):Xh q loose XP YP Gk.row.toRowW d [] (fun f vs=>Pk f vs) :=
 L2.ajb (n:=63) (k:=17) (x := "_law_script") (CX:=fun _=>CX0) (sp:=fun w=>ah6 (K w.params)) hn (by decide) hdf ⟨rfl,by decide,by decide⟩ hY F (fun _ _ a ns hl _ hS=>⟨a,ns,rfl,hS,hl,fun _=>rfl⟩) fun _ _ _ _ _ z=>z
end My
theorem PySem.Challenge.cw_sketchbounds_k35_runs_of_pieces_holds : PySem.Challenge.rw_sketchbounds_k35_runs_of_pieces.Holds := by
  exact My.head My.RR My.all_mk My.walk

