import PyProof.Rows.All
import Wide.All
import Wide.FinOn
import Lean
import KE.KData
import KE.KDictList
import KE.KDictOf
import KE.KDictSum
import KE.KIsAll
import KE.KItem
import KE.KRevIter
import KE.KSortTup
import KE.KTreeO
import ObjForm.Claim3
import Open.Head
import Open.Row
import OpenK.KCall
import OpenK.KCls
import OpenK.KDescr
import OpenK.KFacts
import OpenK.KGet
import OpenK.KLine
import OpenK.KMake
import OpenK.KMore
import OpenK.KOps
import OpenK.KOwn
import OpenK.KRaise
import OpenK.KWalk
import OpenK.Peek
import OpenK.ZHead
import PyProof.AutoIntG2
import PyProof.CollectIter
import PyProof.EqAt
import PyProof.EqKinds
import PyProof.ForAny
import PyProof.NeKinds
import PyProof.Rows.Range3
import PyProof.Rows.SetFrom
import PyProof.Rows.SumAny
import PyProof.SetRoads
import PyProof.TupleCall
import PyProof.ZipIter
import KE.RegKIsAll
import Open.Pieces
import PyProof.ListIndex
import PySem.Challenge.RW_sketchbounds_k43_whole_never_more_boxes
set_option compiler.extract_closed false
set_option linter.defProp false
open PySem renaming wpAny_bind->aG,wpAny_pure->bH,Program->aN,boot_len->gQ,mainGlobals->fG,Around->bC,wpAny_mono->fO,starEach->dM,wpAny_holding->jR,codeAny_builtin->sW,plainId_quiet->oN,wpAny_call_entry->vV,wpAny_newObj_type->yK,wpAny_Call_Name_kw->tQ,sliceBounds->jr,SetTable->fP,wpAny_tryCatch->pL,wpAny_ite_split->qO,wpAny_updateSeq->qP,wpAny_seqItems->qQ,mem_of_lookup->Ak,wpAny_rule->jY,wpAny_setField_rec->Al,Builtin->gh,codeAny->gj,wpAny_truthy_bool->Am,wpAny_passesOwn->wJ,compareOp->jF,relabel->gA,wpAny_setState_of->Ao,fits_of_scanBound->Aq,wpAny_of_eq->pN,wpAny_callSpecial?_slot->K8,wpAny_setEntries_of->Fj,wpAny_askSetting->Av,intKind->iw,codeAny_mono->tR,builtinLookup_eq_fast->K9,argBest->iy,wpAny_letGo->qR,sysModules->pO,foldedSetIterable->Fl,attributeBase->wK,evalArgs_none->La,wpAny_comprehension_free->Ss,importedModules->Fo,letOwnedTupleGo->Fp,tupleKind_room_in1->Lb,wpAny_newList->Aw,intItems->lQ,wpAny_Call_method->Ld,wpAny_isInstance->Le,backTo->iI,wpAny_pyIter_revIter->Sv,wpAny_attempt->Ft,treeTable->tU,wpAny_execs_nil->Lf,wpAny_specialOf->Lg,typeLookup_type->Lh,bootBuiltins->Fv,setAddHashedIn->Li,isSubtype_type->Lj,wpAny_fieldsOf->Lk,assignEach->Ax,slot_list_getitem->Sw,wpAny_getItem_list_slice->abh,wpAny_pyIter_slot->Sy,binaryOp->tV,behindInMarks->Ln,relayAll->tW,pyNext->jZ,Result->j6,codeAny_compStart_list->abj,tupleKind->Ay,bindArgs->wL,NameKind->wM,storeSet->wN,wpAny_loadName_local->abk,wpAny_newFunctionEnv->abl,codeAny_call_builtin->abm,codeAny_extend_loopS->abn,rawInt->mX,entryFor_alias->SJ,method_meetsIn->SM,wpAny_newTuple->SN,wpAny_loadName_cell->abo,sizeLine_eq->Lp,keywordEach->Lq,intItems_at->Lr,assign->pP,wpAny_standAt->SQ,slicePick->Fw,argsOk->pQ,nums_intItems->SX,call_reversed_list->abp,call->Lw,holding->wO,wpAny_assign_Name->abq,wpAny_pyIter_list->abr,wpAny_call->Lx,Keyword->wQ,typeLookup->Ly,valueAt->wR,callerA->wU,checkCount->Lz,meets_dict_values->abt,wpAny_storeSet_of->abu,setsByText->LC,wpAny_setEpoch_of->abv,Within->S5,seqIndex_neg->S6,wpAny_typeOf->S7,wpAny_execs_cons->abw,checkBuiltinCall->abx,wpAny_pyIter_zip->aby,entryFor->Fx,swapsWith->LQ,BindsTo->Az,seqIndex_of->S8,subscripted->S9,pickOrder->LR,codeAny_of_tree->abz,unsupported->Tc,newFunctionEnv->abA,wpAny_runValue->abB,firstArgMember->abC,isSubtype_stop->abD,builtinsNs->Td,wpAny_Name->Tf,pyIter->wV,closureFor->Tg,bltViewBooted->abE,Operator->Ma,getItem->Fy,intBits_le_64->abF,backToKw->Mf,evalPart_none->abG,call_list_seq->abH,compEnvC->Mi,eval_ListComp->abI,relayAll_perm->abJ,relayAll_fits->abK,numAt_eq->Mj,Params->Bb,storeName->Ti,PassesOwn->Tj,getMethod->Tn,cellsFrom->Tp,call_meetsIn->abL,DictEntry->Tq,setAddHashed->abM,newFields->Tr,updateSeq->Tt,iter_intList->abN,setItem->Ml,newList->Mp,ElemsOf->Mq,isTrue->Fz,layNew->FJ,Thread->Mr,DefRec->Ms
open List renaming length_map->bA,getElem?_eq_getElem->gR,mem_cons_of_mem->gk,mem_cons->cU,getElem?_eq_some_iff->fQ,mem_cons_self->cZ,length_append->dh,mem_append->dg,mem_singleton->d8,size_toArray->dY,map_append->dN,length_take->gJ,getElem?_map->iB,pairwise_cons->iV,append_assoc->iW,mem_append_right->lD,map_cons->f9,pairwise_append->lE,length_cons->iY,not_mem_nil->jd,take_of_length_le->oO,mem_or_eq_of_mem_set->vW,nodup_cons->jT,length_set->jU,getElem?_append_right->yL,getD_eq_getElem?_getD->yM,length_eq_zero_iff->vX,filter_append->tX,mem_map->jV,getElem?_eq_none->yN,getElem?_append_left->FN,filter_eq_nil_iff->CT,take_add_one->vY,filter_cons_of_neg->FQ,mem_append_left->CV,map_map->mY,drop_eq_getElem_cons->JK,extract_eq_take_drop->JL,pairwise_iff_getElem->JM,filterMap_cons->CW,reverse_append->CZ,take_append_drop->FT,sum_cons->lR,filter_cons_of_pos->Bc,mem_iff_getElem->wW,take_length->qT,length->jG,length_replicate->Bd,length_filter_le->Bf,filter_cons->tY,mem_reverse->tZ,map_reverse->uc,getElem?_set_ne->Bg,reverse_cons->wX,length_reverse->Bh,length_drop->wY,getElem_mem->wZ,nodup_nil->ud,reverse_reverse->FW,mem_of_mem_drop->FZ,append_nil->xg,mem_filter->xr,find?_cons->xu,range->mZ,getElem?_set_self->Mt,any_cons->xG,pairwise_map->Ga,length_range->Gb,getElem?_eq_none_iff->Tv,map_congr_left->Mu,of_mem_zip->Gd,pairwise_singleton->Tw,getElem?_cons_succ->Tz,drop_of_length_le->TF,lookup->xH,length_filterMap_eq_countP->abO,replicate->Ge,getElem?_toArray->TJ,filter_eq_self->TQ,drop_set_of_lt->TV,take_succ_cons->TX,filter_reverse->TY,length_pos_iff->T4,length_eraseIdx_of_lt->abP,mem_filterMap->T5,mem_range->Mv,take_sublist->T6,nodup_append->T7,getElem_drop->T8,getElem_take->T9,getElem?_replicate->abQ,pairwise_mergeSort->abR,getLast?_cons_cons->abS,take_nil->Mw,map_drop->Mx,lookup_cons->Ua,perm_middle->Ub,cons_ne_nil->Uc,drop_length->Ud,reverse_singleton->abT,pairwise_lt_range->abU,nil_append->Ue,map_nil->Mz,sum_append->Ug,perm_append_comm->abV,singleton_append->abW,pairwise_reverse->abX,getElem?_reverse->abY,mem_of_mem_take->abZ,mem_of_mem_tail->ab0,take_zero->Uh,mergeSort_perm->ab1,drop_succ_cons->ab2,take_set_of_le->ab3,map_filterMap->ab4,filterMap_map->ab5,foldl_append->ab6,reverse_perm->ab7,all_eq_true->ab8,map_snd_zip->ab9,getElem_map->acd,length_nil->ace,drop_drop->acf,drop_left->acg,drop_zero->ach,foldl->Ui,all_cons->aci,nil_perm->acj,map_id'->acn
open PySem.Heap renaming get?_push_of_some->dR,lt_size->bR,get?_push_size->eE,get?_update_other->m8,get?_update_self->yO,size_push->qU,SameBut->uf,size_update->Uj,get?_none_of_le->aco,get?_push_ne->acp
open PySem.W renaming Frag->bh,mg_of->dw,findIn->jB,mg_none_of->ug,nsIn->oR,emptyDict->yP,fnOf->j7,keepIn->pR,instObj->uh,plainGet->Bj,hasDictIn->Gg,mroIn->Bk,plainOver->MF,codeIn->Gh,excIn->Gi,makesIn->MJ,hideAll_get->Uk,plainGet_of->Ul,isFn->Gj,callWith_K->Um,lookIn->MN,methodObj->Uo,specialIn->Uq,cellsFrom_some->acq,takerIn->Ur,typeIn->Us,kitOne->Ut,kdu_collect->acr,WalkO->Uu,of_hideAll->acs,kdl_values->acu,handedIn->acv,kdl_call->acw,kdl_dict->acy,hideAll->acz,takesIn->acA,kIn_of->aiq,KdlSrc->acB
open Nat renaming le_refl->bV,zero_le->cB,ne_of_lt->cO,lt_of_lt_of_le->gF,le_trans->iC,lt_or_ge->jW,lt_succ_of_lt->um,le_of_lt->mH,lt_irrefl->oU,pow_le_pow_right->xJ,lt_succ_self->xK,pow_succ->pU,le_succ->m9,ne_of_gt->qW,lt_of_le_of_lt->Gk,eq_zero_or_pos->Gm,zero_add->uo,mul_add->qX,mul_le_mul_right->MP,mul_comm->xM,strongRecOn->Gn,mul_assoc->Bl,add_zero->Bm,add_assoc->Gp,min_eq_left->M5,le_of_eq->M6,mul_zero->M7,mul_le_mul->Uv,mul_le_mul_left->acC,lt_trichotomy->acD,not_lt->M8,le_succ_of_le->acE,sub_self->Uw,pow_zero->Ux,le_of_not_lt->acF,not_lt_zero->acG,add_le_add->acH,lt_trans->acI,one_mul->acJ,mod_lt->acK
open Ne renaming symm->aK
open Option.some renaming inj->dB,injEq->Uy
open Array renaming length_toList->fU,getElem?_toList->iD,toList_append->sX,toList_push->uq,toList_extract->Bo,toList_reverse->Bq,perm_iff_toList_perm->M9,toArray_toList->Uz,getElem?_eq_some_iff->acL,size_reverse->UG,size_map->Nb,size_setIfInBounds->acM,getElem?_eq_none->acN,size_replicate->acO,size_extract->acP,toList->acQ
open PyProof.Rows renaming wpS_bind->aP,wpS_pure->aZ,pendingOf->dU,callWith_type1->Gq,wpS_forRange->jX,boot_sorted->Br,seqObj->cM,wpS_mono->gn,wpS_modify->lU,getElem?_mirror_all->Gs,setArr->fu,pairsOf_size->ur,boot_sum->Nf,failedOf->lV,pairsOf->jt,listUpdate_at->Bs,boot_list->UJ,boot_max->UL,reverseSlice'_eq->Ng,seqEpoch_at->Bt,entry_list_sort->Nh,slot_list_sort->Ni,size_push'->Bu,expectedOf->acR,plainGoodE->acS,plainGoodD->acT,subscriptTail->Nj,wpS_get->pW,reverseSlice'->Nk,gallopOf->ux,envOfC->j8,subscriptTail_builtinR->acU,boot_dict->acV,AllBare->qY,plain_sorted->Nm,entry_sorted->Np,wpS_lift->xO,sortedHeap->Gu,drecsOf->acW,pairsOf_toList->UW,args_list_sort->U0,sortedHeap_old->U3,mirror_perm->Nq,kind_sorted->Nr,Constant_none->U4,sortedHeap_at->U5,callWith_builtin1->air,mem_zip_self->U6,args_sorted1->U7,getElem?_bubble->acX,get?_update_seq->acY,callWith_kw->U8,Subscript_->U9,mirror->xP,Constant_bool->acZ,boot_reversed->ac0,listItems_at->ac1,keyKind_ints->ac2,boot_set->ais,kws_cons->Va
open PySem.Challenge renaming rw_sketchbounds_k43_whole_never_more_boxes->Dc,pw_sketchbounds_k43_whole_never_more_boxes->ait
open Int renaming le_refl->cP,le_trans->iG,mul_le_mul_of_nonneg_right->Gv,emod_lt_of_pos->yQ,le_of_lt->oW,emod_nonneg->qZ,not_lt->jH,natCast_pow->uy,pow_succ->pY,natCast_add->Bv,mul_assoc->xQ,zero_add->xR,add_zero->Bw,lt_of_le_of_lt->Vb,mul_neg_of_neg_of_pos->ac3,toNat_natCast->Vc,eq_ofNat_of_zero_le->ac4,natCast_mul->Vd,toNat_of_nonneg->ac5,mul_right_comm->ac6,add_assoc->Ve,mul_comm->Vf,mul_one->Vg,add_mul->Vh,mul_add->Vi,pow_pos->Vj,pow_add->Vk,le_antisymm->ac7,mul_le_mul->ac8,pow_nonneg->ac9,ne_of_gt->ada,lt_or_le->adb,mul_zero->ade,add_comm->adf,pow_zero->adg,one_mul->adh
open Bool renaming false_ne_true->je,false_eq_true->uz,not_eq_true'->xT,and_eq_true->Gw,eq_iff_iff->Nt,not_eq_false'->Vl,and_eq_true_iff->adi,or_eq_true->adk,false_or->adl
open PySem.SetTable renaming below->jf,grown->xU,has->Nu,toList_insertAt->aiu,slot->adn,fits->ado,probeStart->aiv,orStandIn->aiw,sizeAbove->aix,freeSlot->aiy,insertAt->aiz,layClean->aiA,advance->aiB,standIn->aiC,relaid->aiD,Probe->aiE,laid->aiF,put->aiG
open PySem.Around renaming under_plainId->uD,under->Vm
open PySem.Obj renaming mapSeq->gU,putSet->Nv
open PySem.PassesOwn renaming never->oX
open PySem.Builtin.List renaming listExtendWith->JN,listLengthHint->Nx,listSameRef->Ny,listItems->adp,listUpdate->aiH
open PySem.F renaming excBase_ValueError->JQ,slot_list_append->Bx,type_list_append->BJ,plainAttrs_list->BK,slot_dict_values->Nz,plainAttrs_dict->NP,slot_dict_get->Vn,slot_int_bit_length->adq,args_dict_values_1->adt,entry_dict_values->adu,type_dict_values->adw,args_dict_get_3->adx,slot_dict_items->ady,entry_dict_get->adz
open PySem.Builtin.Int renaming intBits->Dd
open PySem.Calls renaming spliced_cons->uE,spliced_nil->xV,call_function_entry->Vo,callWith_builtin->Vp,evalArgs_plain->Vq,Name_function_global->adA
open Option renaming map_eq_some_iff->BL,isSome_iff_exists->adB,bind_eq_some_iff->adC,getD_none->Vr,map_map->Vs,isSome_map->adD,map_some->adE,map->adF
open False renaming elim->iZ
open List.Perm renaming append_left->Gx,append_right->adG,refl->Vt,cons_inv->adH,of_eq->aiI
open PySem.Str renaming ofString->rm,empty->Vu
open PyProof.Rows.SortSt renaming mk'->rA
open PySem.SetTable.below renaming go->NQ
open Prod renaming ext->pZ,snd->adI
open PySem.Value renaming isInt->BP,isStrOf->adJ
open PySem.Builtin.Builtins renaming bindParams->adK
open PySem.SeqAt.EqAt renaming same->Vv,int_str->adL,str_int->adM,of_refs->adN,none_bool->aiJ,bool_none->aiK,bool_bool->aiL,none_int->aiM,none_str->aiN,bool_int->aiO,bool_str->aiP,int_none->aiQ,int_bool->aiR,str_none->aiS,str_bool->aiT,int_int->aiU,str_str->aiV
open Array.Perm renaming refl->Vw
open Classical renaming choose_spec->adO,choose->adP
open PySem.SeqAt renaming EqAt->Gy
open PySem.Walks renaming list->Gz
open PySem.Heap.SameBut renaming update->adQ,refl->aiW
open PySem.W.Fast renaming te9446332074065402090->aiX
open Prod.mk renaming injEq->Vx
open PySem.Paired renaming length->Vy,snoc->adR
open PySem.Heap.IsSliceOf renaming new->adS
open List.Nodup renaming sublist->adT
open PySem.SetTable.probe renaming go->adU
open PySem.Code renaming isFrame->Vz,frames->adV
open PySem.AutoIntG2 renaming int_bit_length_int_0->aiY
open List.Sublist renaming map->adW
open PySem.Builtin.Frozenset renaming updateFrom->aiZ,newClass->ai0,sizeOf->ai1
open Eq renaming trans->GC
open StateT renaming run_pure->adX
open PySem.EqNone renaming eq_none_none->ai2,eq_none_bool->ai3,eq_bool_none->ai4,ne_none_none->ai5,ne_none_bool->ai6,ne_bool_none->ai7,eq_none_int->ai8,eq_none_str->ai9,eq_int_none->aja,eq_str_none->ajb,ne_none_int->ajc,ne_none_str->ajd,ne_int_none->aje,ne_str_none->ajf
open PySem.EqMixed renaming eq_bool_str->ajg,eq_str_bool->ajh,ne_bool_str->aji,ne_str_bool->ajj,eq_int_str->ajk,eq_str_int->ajl,ne_int_str->ajm,ne_str_int->ajn
open PySem.Bind renaming checkArgs->adY
open PySem.SetTable.Met.empty renaming injEq->ajo
open PySem.Builtin.Range renaming rangeSize->ajp
open List.Pairwise renaming filterMap->ajq
open PySem.Shared renaming TypeIs->adZ
open PySem.Heap.UpToSlots renaming of_keeps->ajr
open Sum.inl renaming inj->ad0
open PySem.ItemsOf renaming nil->ad1
open PySem.SeqAt.RcNeAt renaming tuples->ajs,lists->ajt
open PySem.W.Looks renaming here->aju
open PySem.Within renaming cons->ajv
open PySem.Heap.Ns1 renaming of_empty->ajw
open PySem.SeqAt.RcAt renaming tuples->ajx,lists->ajy
open PySem.DictEntry renaming refKey->ajz
open PySem.IsL renaming update->ajA
open PySem.Heap.DictOf renaming new->ajB
open List.cons renaming inj->ajC
open Int.ofNat renaming inj->ajD
set_option hygiene false
local macro_rules | `(term| tb_g%) => `(by first | decide +kernel | lia | exact hr.mono (by decide))
local macro_rules | `(tactic| k_dat ($x0,$x1:ident) "a") => `(tactic| (refine $x0:term $x1:ident (fun vs H Q E h=>?_) (fun cdv B outer s H vs Q E hr h=>?_)))
local macro_rules | `(tactic| k_dat ($x0:ident,$x1:ident) "b") => `(tactic| (extract_lets +onlyGivenNames -underBinder -merge $x0:ident;clear_value ($x1:ident :$x0:ident =_)))
local macro_rules | `(tactic| walk_at "c") => `(tactic| (try dsimp (config:={ zeta:=false }) only))
local macro_rules | `(tactic| walk_at "d") => `(tactic| (iterate 1 (extract_lets +onlyGivenNames -underBinder -merge zz;subst zz)))
local macro_rules | `(tactic| k_dat ($x0:ident,$x1:ident,$x2:ident,$x3,$x4,$x5) "e") => `(tactic| (refine ⟨_,rfl,$x0:ident,_,$x1:ident,_,rfl,$x2:ident,$x3:term,$x4:term,(by show $x5:term<1000;decide),?_⟩))
local macro_rules | `(tactic| k_dat ($x0:ident,$x1:ident) "f") => `(tactic| (refine $x0:ident (by simpa using $x1:ident) ?_))
local macro_rules | `(tactic| walk_at "g") => `(tactic| (iterate 2 (extract_lets +onlyGivenNames -underBinder -merge zz;subst zz)))
local macro_rules | `(tactic| walk_at "h") => `(tactic| (iterate 9 (extract_lets +onlyGivenNames -underBinder -merge zz;subst zz)))
local macro_rules | `(tactic| walk_at "i") => `(tactic| (intro X hP hw hK hc i pins s σ H E I hf st hg))
local macro_rules | `(tactic| k_dat $x0:ident "j") => `(tactic| (obtain ⟨f0,f1,f2,f3,f4,f5⟩:=hf $x0:ident (by simp)))
local macro_rules | `(tactic| walk_at "k") => `(tactic| (intro pins s σ H Q I h))
local macro_rules | `(tactic| walk_at "l") => `(tactic| (intro pins s σ H x y v u Q I rx ry h))
local macro_rules | `(tactic| walk_at "m") => `(tactic| (rcases iz m with rfl | m))
set_option hygiene true
set_option maxRecDepth 100000
set_option maxHeartbeats 0
namespace L2
open PySem
def inClass (s:Stmt) (j:Nat):Stmt:=match s with
 | .ClassDef _ _ _ body _ _ _ _ _ _ _=>body.getD j (.Pass ⟨0,0,0,0⟩)
 | _=>.Pass ⟨0,0,0,0⟩
def jJ (s:Stmt):Arguments:=match s with
 | .FunctionDef _ a _ _ _ _ _ _ _ _=>a
 | _=>{ posonlyargs:=[],args:=[],vararg:=none,kwonlyargs:=[],kw_defaults:=[],kwarg:=none,defaults:=[] }
def iR (s:Stmt):List Stmt:=match s with
 | .FunctionDef _ _ b _ _ _ _ _ _ _=>b
 | _=>[]
def aH (s:Stmt):Scope:=match s with
 | .FunctionDef _ _ _ _ _ _ sc _ _ _=>sc
 | _=>{ kind:=.function,names:=[],isGenerator:=false,isCoroutine:=false }
end L2
namespace My
open PySem PySem.W PyProof.Rows
def oY (tb:String->Option gh) (p:aN) (w:World) (n₀:Nat) (ann:Option Value):Nat->SharedT->Mr->Option SharedT
 | 0,_,_=>none
 | n+1,s,t=>match through t with
  | true=>some s
  | false=>match stepOk n₀ ann t with
   | false=>none
   | true=>match stepT (denote tb) p w s t with
    | some (s',t')=>oY tb p w n₀ ann n s' t'
    | none=>none
theorem GD {tb:String->Option gh} {p:aN} {w:World} {n₀:Nat} {ann:Option Value}:∀ {n:Nat} {s s':SharedT} {t:Mr},oY tb p w n₀ ann n s t=some s'->topRun tb p w n₀ ann n s.abs t=some s'.abs
 | 0,_,_,_,h=>by cases h
 | n+1,s,s',t,h=>by
  unfold oY at h
  unfold topRun
  cases ht:through t with
  | true =>
   rw [ht] at h
   obtain rfl:=dB h
   rfl
  | false =>
   rw [ht] at h
   dsimp only at h ⊢
   cases hs:stepOk n₀ ann t with
   | false=>rw [hs] at h;cases h
   | true =>
    rw [hs] at h
    dsimp only at h ⊢
    cases hq:stepT (denote tb) p w s t with
    | none=>rw [hq] at h;cases h
    | some x =>
     obtain ⟨s2,t2⟩:=x
     rw [hq] at h
     rw [stepT_spec hq]
     exact GD h
def treeOf:List Obj->Nat->BT->Option BT
 | [],_,t=>some t
 | o::r,n,t=>match ((t.ins n o).get n).isSome with
  | true=>treeOf r (n+1) (t.ins n o)
  | false=>none
theorem JR {life:Life}:∀ {l:List Obj} {n:Nat} {t t':BT},treeOf l n t=some t'->absHeap t' (n+l.length) life=⟨((t.list n)++l).toArray,life⟩
 | [],n,t,t',h=>by
  obtain rfl:=dB h
  rw [xg];rfl
 | o::r,n,t,t',h=>by
  unfold treeOf at h
  cases g:((t.ins n o).get n).isSome with
  | false=>rw [g] at h;cases h
  | true =>
   rw [g] at h
   have e:=JR (life:=life) h
   rw [show n+(o::r).length=n+1+r.length by rw [iY];lia,e]
   have e2:=absHeap_ins (life:=life) g
   have e3:(t.ins n o).list (n+1)=t.list n++[o]:=by
    have:=congrArg (fun h:Heap=>h.objs.toList) e2
    simpa [absHeap,Heap.push] using this
   rw [e3,iW];rfl
def NT (h:Heap):Option BT:=treeOf h.objs.toList 0 .nil
theorem Z4 {h:Heap} {T:BT} (e:NT h=some T):absHeap T h.objs.size h.life=h:=by
 have:=JR (life:=h.life) e
 rw [uo,fU] at this
 rw [this]
 show Heap.mk (([]++h.objs.toList).toArray) h.life=h
 rw [Ue]
/-- the opening and the top -/
def Z6 (p:aN) (w:World) (N:Nat):Option (Shared × SharedT):=(fencedOpening tU p w N).bind fun s₀ =>
 match s₀.heap.isNs fG && s₀.gens.size == 0 with
 | true=>(NT s₀.heap).bind fun T=>(oY tU p w s₀.heap.objs.size (s₀.heap.nsMap fG "__annotations__") N ⟨T,s₀.heap.objs.size,s₀.heap.life,s₀.gens,s₀.drawn,s₀.toks,s₀.os⟩ (topStub p)).map fun s₁=>(s₀,s₁)
 | false=>none
def okT (p:aN) (x:Shared × SharedT):Bool:=staticsOk (Fo p.main.body) x.1.heap x.2.abs.heap && namesBound p x.2.abs.heap && gensDone x.2.abs && laidKept x.1.heap x.2.abs.heap
/-- what is told of it,look by look -/
abbrev BR (p q:aN) (Xt:Shared->Bool) (x:Shared × SharedT):=openSeen q [] (Fo p.main.body) Xt true x.2.abs
theorem agm {p:aN} {w:World} {N:Nat} {x:Shared × SharedT} (h:Z6 p w N=some x) (ok:okT p x=true):openEnds tU p w N=some x.2.abs:=by
 unfold Z6 at h
 obtain ⟨s₀,e0,e1⟩:=adC.mp h
 unfold openEnds
 rw [e0]
 show topFrom tU p w N s₀=_
 unfold topFrom
 cases g:(s₀.heap.isNs fG && s₀.gens.size == 0) with
 | false=>rw [g] at e1;cases e1
 | true =>
  rw [g] at e1
  dsimp only at e1 ⊢
  obtain ⟨T,eT,e2⟩:=adC.mp e1
  obtain ⟨s₁,e3,e4⟩:=BL.mp e2
  subst e4
  have r:=GD e3
  have ab:(SharedT.mk T s₀.heap.objs.size s₀.heap.life s₀.gens s₀.drawn s₀.toks s₀.os).abs=s₀:=by
   show Shared.mk (absHeap T s₀.heap.objs.size s₀.heap.life) _ _ _ _=s₀
   rw [Z4 eT]
  rw [ab] at r
  rw [r]
  show (match staticsOk (Fo p.main.body) s₀.heap s₁.abs.heap && namesBound p s₁.abs.heap && gensDone s₁.abs && laidKept s₀.heap s₁.abs.heap with
   | true=>some s₁.abs
   | false=>none)=_
  have ok':(staticsOk (Fo p.main.body) s₀.heap s₁.abs.heap && namesBound p s₁.abs.heap && gensDone s₁.abs && laidKept s₀.heap s₁.abs.heap)=true:=ok
  rw [ok']
/-- one look -/
def Look (p:aN) (N:Nat) {β:Type} (f:Shared × SharedT->β) (b:World->β):Prop:=∀ w:World,(Z6 p w N).map f=some (b w)
theorem Look.at {p:aN} {N:Nat} {β:Type} {f:Shared × SharedT->β} {b:World->β} (h:Look p N f b) {w:World} {x:Shared × SharedT} (e:Z6 p w N=some x):f x=b w:=by
 have:=h w
 rw [e] at this
 exact dB this
theorem agn {p q:aN} {Xt:Shared->Bool} {α:Type} {Yf:Shared->α} {Ya:World->α} {N:Nat}
  (h0:Look p N (okT p) fun _=>true)
  (h1:Look p N (fun x=>(BR p q Xt x).1) fun _=>(openGood q []).1)
  (h2:Look p N (fun x=>(BR p q Xt x).2.1) fun _=>(openGood q []).2.1)
  (h3:Look p N (fun x=>(BR p q Xt x).2.2.1) fun _=>(openGood q []).2.2.1)
  (h4:Look p N (fun x=>(BR p q Xt x).2.2.2.1) fun _=>(openGood q []).2.2.2.1)
  (h5:Look p N (fun x=>(BR p q Xt x).2.2.2.2.1) fun _=>(openGood q []).2.2.2.2.1)
  (h6:Look p N (fun x=>(BR p q Xt x).2.2.2.2.2.1) fun _=>(openGood q []).2.2.2.2.2.1)
  (h7:Look p N (fun x=>(BR p q Xt x).2.2.2.2.2.2.1) fun _=>(openGood q []).2.2.2.2.2.2.1)
  (h8:Look p N (fun x=>(BR p q Xt x).2.2.2.2.2.2.2.1) fun _=>(openGood q []).2.2.2.2.2.2.2.1)
  (h9:Look p N (fun x=>(BR p q Xt x).2.2.2.2.2.2.2.2) fun _=>(openGood q []).2.2.2.2.2.2.2.2)
  (hY:Look p N (fun x=>Yf x.2.abs) Ya):LeftO p q [] Xt Yf Ya N:=fun w=>by
 obtain ⟨x,e,_⟩:=BL.mp (h0 w)
 show (openEnds tU p w N).map _=_
 rw [agm e (h0.at e)]
 show some (BR p q Xt x,Yf x.2.abs)=some (openGood q [],Ya w)
 have a:=hY.at e
 have b:BR p q Xt x=openGood q []:=pZ (h1.at e) (pZ (h2.at e) (pZ (h3.at e) (pZ (h4.at e) (pZ (h5.at e) (pZ (h6.at e) (pZ (h7.at e) (pZ (h8.at e) (h9.at e))))))))
 rw [b]
 exact congrArg some (pZ rfl a)
/-- the objects at some places,read off the tree -/
def ad2 (s:SharedT):List Addr->Option (List (Option Obj))
 | []=>some []
 | a::r=>match Nat.blt a s.n with
  | true=>match s.tree.get a with
   | some o=>match ad2 s r with
    | some l=>some (alive o::l)
    | none=>none
   | none=>none
  | false=>none
theorem YH {s:SharedT}:∀ {as:List Addr} {l:List (Option Obj)},ad2 s as=some l->as.map s.abs.heap.get? = l
 | [],l,h=>dB h
 | a::r,l,h=>by
  unfold ad2 at h
  cases hb:Nat.blt a s.n with
  | false=>rw [hb] at h;cases h
  | true =>
   rw [hb] at h
   dsimp only at h
   cases ho:s.tree.get a with
   | none=>rw [ho] at h;cases h
   | some o =>
    rw [ho] at h
    dsimp only at h
    cases hl:ad2 s r with
    | none=>rw [hl] at h;cases h
    | some l2 =>
     rw [hl] at h
     obtain rfl:=dB h
     rw [f9,YH hl]
     exact congrArg (· :: l2) (abs_get (Nat.le_of_ble_eq_true hb) ho)
open PySem.W.Fast renaming tw10156331382660048174->ahK, te10156331382660048174->ad3, tw6613529449190102663->YJ, te6613529449190102663->VB, tw11892475500146522536->YK, te11892475500146522536->VD, tw14364793385576792824->ad4, te14364793385576792824->JT, tw4187177175401517315->Z7, te4187177175401517315->NZ
noncomputable def ad5 (w:World) (os:OsState):Shared:=⟨boot_heap w.params,Array.mk [],boot_drawn,boot_toks,os⟩
noncomputable def YL (p:aN) (w:World) (N:Nat) (s₀:Shared):Option (Shared × SharedT):=(NT s₀.heap).bind fun T=>(oY tU p w s₀.heap.objs.size (s₀.heap.nsMap fG "__annotations__") N ⟨T,s₀.heap.objs.size,s₀.heap.life,s₀.gens,s₀.drawn,s₀.toks,s₀.os⟩ (topStub p)).map fun s₁=>(s₀,s₁)
theorem ago (P:Bb):(boot_heap P).isNs fG=true:=by kernel_rfl
theorem Z8 {p:aN} {N:Nat} (e:opening p=plainProg p.main.scope.names) (hN:Nat.ble 600 N=true) (f:∀ s,fenceModules? p s=some s) (w:World):∃ os,Z6 p w N=YL p w N (ad5 w os):=by
 obtain ⟨s,hs,hv⟩:=BL.mp (boot_open e hN f w)
 obtain ⟨h,g,d,k,os⟩:=s
 simp only [Vx] at hv
 obtain ⟨rfl,rfl,rfl,rfl⟩:=hv
 refine ⟨os,?_⟩
 unfold Z6
 rw [hs]
 show (match (boot_heap w.params).isNs fG && _ with | true=>YL p w N (ad5 w os) | false=>none)=_
 rw [ago]
 rfl
noncomputable def yR (p:aN) (w:World) (n₀:Nat) (ann:Option Value):Nat->SharedT->Mr->Option SharedT
 | 0,_,_=>none
 | n+1,s,t=>match through t with
  | true=>some s
  | false=>match YJ n₀ ann t with
   | false=>none
   | true=>match ahK (YK ad4) p w s t with
    | some (s',t')=>yR p w n₀ ann n s' t'
    | none=>none
theorem GF {p:aN} {w:World} {n₀:Nat} {ann:Option Value}:∀ {n:Nat} {s:SharedT} {t:Mr},oY tU p w n₀ ann n s t=yR p w n₀ ann n s t
 | 0,_,_=>rfl
 | n+1,s,t=>by
  have ih:∀ s t,oY tU p w n₀ ann n s t=yR p w n₀ ann n s t:=fun _ _=>GF
  rw [JT] at ih
  unfold oY yR
  rw [VB,ad3,VD,JT]
  cases through t with
  | true=>rfl
  | false =>
   dsimp only
   cases YJ n₀ ann t with
   | false=>rfl
   | true =>
    dsimp only
    cases ahK (YK ad4) p w s t with
    | none=>rfl
    | some x=>exact ih _ _
noncomputable def ad6 (p:aN) (w:World) (N:Nat) (s₀:Shared):Option (Shared × SharedT):=(NT s₀.heap).bind fun T=>(yR p w s₀.heap.objs.size (s₀.heap.nsMap fG "__annotations__") N ⟨T,s₀.heap.objs.size,s₀.heap.life,s₀.gens,s₀.drawn,s₀.toks,s₀.os⟩ (topStub p)).map fun s₁=>(s₀,s₁)
theorem ad7 {p:aN} {w:World} {N:Nat} {s₀:Shared}:YL p w N s₀=ad6 p w N s₀:=by
 unfold YL ad6
 exact congrArg _ (funext fun T=>congrArg _ GF)
/-- one look,at the quick run -/
def iJ (p:aN) (N:Nat) {β:Type} (f:Shared × SharedT->β) (b:World->β):Prop:=∀ (w:World) (os:OsState),(ad6 p w N (ad5 w os)).map f=some (b w)
noncomputable abbrev qw (p q:aN) (Xt:Shared->Bool) (x:Shared × SharedT):=Z7 q [] (Fo p.main.body) Xt true x.2.abs
theorem agp {p q:aN} {Xt:Shared->Bool}:BR p q Xt=qw p q Xt:=by
 funext x
 unfold BR qw
 rw [NZ]
structure Plain (p:aN) (N:Nat):Prop where
 op:opening p=plainProg p.main.scope.names
 n:Nat.ble 600 N=true
 fe:∀ s,fenceModules? p s=some s
theorem iJ.look {p:aN} {N:Nat} {β:Type} {f:Shared × SharedT->β} {b:World->β} (h:iJ p N f b) (P:Plain p N):Look p N f b:=fun w=>by
 obtain ⟨os,e⟩:=Z8 P.op P.n P.fe w
 rw [e,ad7]
 exact h w os
/-- what is asked of each look,part by part (not as a part of the whole: the kernel would then hold the wholes against each other) -/
theorem ad8 {p q:aN} {Xt:Shared->Bool} {as:List Addr} {Ya:World->List (Option Obj)} {N:Nat} (P:Plain p N)
  (h0:iJ p N (okT p) fun _=>true)
  (h1:iJ p N (fun x=>(qw p q Xt x).1) fun _=>acR q)
  (h2:iJ p N (fun x=>(qw p q Xt x).2.1) fun _=>abE)
  (h3:iJ p N (fun x=>(qw p q Xt x).2.2.1) fun _=>true)
  (h4:iJ p N (fun x=>(qw p q Xt x).2.2.2.1) fun _=>true)
  (h5:iJ p N (fun x=>(qw p q Xt x).2.2.2.2.1) fun _=>pinGoodD (acW q))
  (h6:iJ p N (fun x=>(qw p q Xt x).2.2.2.2.2.1) fun _=>acS q (looseW q []))
  (h7:iJ p N (fun x=>(qw p q Xt x).2.2.2.2.2.2.1) fun _=>acT q [])
  (h8:iJ p N (fun x=>(qw p q Xt x).2.2.2.2.2.2.2.1) fun _=>wideGood q)
  (h9:iJ p N (fun x=>(qw p q Xt x).2.2.2.2.2.2.2.2) fun _=>clsGoodW q [])
  (hY:iJ p N (fun x=>ad2 x.2 as) fun w=>some (Ya w)):LeftO p q [] Xt (fun s=>as.map s.heap.get?) Ya N:=by
 rw [<- agp] at h1 h2 h3 h4 h5 h6 h7 h8 h9
 refine agn (h0.look P) (h1.look P) (h2.look P) (h3.look P) (h4.look P) (h5.look P) (h6.look P) (h7.look P) (h8.look P) (h9.look P) fun w=>?_
 obtain ⟨x,e,_⟩:=BL.mp (h0.look P w)
 rw [e]
 exact congrArg some (YH ((hY.look P).at e))
end My
namespace My
open PySem L2
def top (i:Nat):Stmt:=ait.main.body.getD i (.Pass ⟨0,0,0,0⟩)
abbrev s'0:Stmt:=top 27
abbrev s'1:Stmt:=top 28
abbrev s'2:Stmt:=top 29
abbrev s'3:Stmt:=inClass (top 24) 3
abbrev s'4:Stmt:=inClass (top 24) 2
abbrev s'5:Stmt:=top 25
abbrev s'6:Stmt:=top 26
abbrev s'7:Stmt:=inClass (top 24) 0
abbrev s'8:Stmt:=inClass (top 24) 1
abbrev s'9:Stmt:=top 34
abbrev s'10:Stmt:=inClass (top 33) 0
abbrev s'11:Stmt:=inClass (top 33) 3
abbrev s'12:Stmt:=inClass (top 33) 1
abbrev s'13:Stmt:=inClass (top 33) 2
abbrev s'14:Stmt:=top 12
abbrev s'15:Stmt:=top 13
abbrev s'16:Stmt:=inClass (top 15) 0
abbrev s'17:Stmt:=top 16
abbrev s'18:Stmt:=inClass (top 15) 2
abbrev s'19:Stmt:=inClass (top 15) 1
abbrev s'20:Stmt:=inClass (top 19) 0
abbrev s'21:Stmt:=top 20
abbrev s'22:Stmt:=top 21
abbrev s'23:Stmt:=inClass (top 19) 2
abbrev s'24:Stmt:=inClass (top 19) 1
abbrev s'25:Stmt:=top 6
abbrev s'26:Stmt:=inClass (top 5) 0
abbrev s'27:Stmt:=inClass (top 5) 1
abbrev s'28:Stmt:=inClass (top 5) 2
abbrev s'29:Stmt:=inClass (top 37) 1
abbrev s'30:Stmt:=inClass (top 37) 2
abbrev s'31:Stmt:=inClass (top 37) 3
abbrev s'32:Stmt:=inClass (top 37) 0
abbrev s'33:Stmt:=top 41
abbrev s'34:Stmt:=top 42
abbrev s'35:Stmt:=top 43
abbrev s'36:Stmt:=top 44
abbrev s'37:Stmt:=top 45
abbrev s'38:Stmt:=top 47
abbrev s'39:Stmt:=top 46
abbrev s'40:Stmt:=top 22
abbrev s'41:Stmt:=top 30
abbrev s'42:Stmt:=top 31
abbrev s'43:Stmt:=top 35
abbrev s'44:Stmt:=top 7
abbrev s'45:Stmt:=top 17
abbrev s'46:Stmt:=top 38
abbrev s'47:Stmt:=top 39
abbrev s'48:Stmt:=top 52
abbrev s'49:Stmt:=top 48
abbrev s'50:Stmt:=top 49
abbrev s'51:Stmt:=top 50
abbrev s'52:Stmt:=top 51
abbrev s'53:Stmt:=top 53
def LK (K:bh) (n q:Str) (s:Stmt) (f:Addr):Prop:=∃ (oc:Value) (od an:Option Addr) (sl:Array (Option Value)) (kV dc pm cd ct:Value),K.lookup f=some ⟨oc,od,.func (j7 n q (jJ s) (iR s) (aH s) .none kV dc pm an cd ct),sl⟩/\Gh K cd q=true/\pR K (.ref f)=true
def GK (K:bh) (n q:Str) (s:Stmt) (f:Addr):Prop:=oR K fG n=some (some (.ref f))/\LK K n q s f
def MeK (K:bh) (C:Addr) (n q:Str) (s:Stmt) (f:Addr):Prop:=jB K (.ref C) n=some (some (.ref f))/\Gj K (.ref f)=true/\LK K n q s f
def CK (K:bh) (C:Addr):Prop:=Bj K C Vu=true/\Gg K C=true/\MF K C=true/\jB K (.ref C) "__setattr__" = some (some (.builtin "object.__setattr__"))/\MJ K C=true/\pR K (.ref C)=true
def NK (K:bh) (C:Addr):List Str->Prop
 | []=>True
 | f::r=>jB K (.ref C) f=some none/\NK K C r
def ZK (K:bh):List Str->Prop
 | []=>True
 | n::r=>oR K fG n=some none/\ZK K r
theorem LK.of {K:bh} {n q:Str} {s:Stmt} {f:Addr} {oc:Value} {od an:Option Addr} {sl:Array (Option Value)} {kV dc pm cd ct:Value} (l:K.lookup f=some ⟨oc,od,.func (j7 n q (jJ s) (iR s) (aH s) .none kV dc pm an cd ct),sl⟩) (c:Gh K cd q=true) (k:pR K (.ref f)=true):LK K n q s f:=⟨oc,od,an,sl,kV,dc,pm,cd,ct,l,c,k⟩
theorem GK.of {K:bh} {n q:Str} {s:Stmt} {f:Addr} (a:oR K fG n=some (some (.ref f))) (l:LK K n q s f):GK K n q s f:=⟨a,l⟩
theorem MeK.of {K:bh} {C:Addr} {n q:Str} {s:Stmt} {f:Addr} (a:jB K (.ref C) n=some (some (.ref f))) (i:Gj K (.ref f)=true) (l:LK K n q s f):MeK K C n q s f:=⟨a,i,l⟩
theorem CK.of {K:bh} {C:Addr} (a:Bj K C Vu=true) (b:Gg K C=true) (c:MF K C=true) (d:jB K (.ref C) "__setattr__" = some (some (.builtin "object.__setattr__"))) (e:MJ K C=true) (f:pR K (.ref C)=true):CK K C:=⟨a,b,c,d,e,f⟩
theorem NK.nil {K:bh} {C:Addr}:NK K C []:=trivial
theorem NK.cons {K:bh} {C:Addr} {f:Str} {r:List Str} (a:jB K (.ref C) f=some none) (b:NK K C r):NK K C (f::r):=⟨a,b⟩
theorem ZK.nil {K:bh}:ZK K []:=trivial
theorem ZK.cons {K:bh} {f:Str} {r:List Str} (a:oR K fG f=some none) (b:ZK K r):ZK K (f::r):=⟨a,b⟩
abbrev eV:PySem.W.OpenRow:=Dc.row
def view:PySem.Program:={ eV.prog with main:={ eV.prog.main with body:=[top 0,top 2,top 3,top 5,top 6,top 7,top 9,top 10,top 11,top 12,top 13,top 15,top 16,top 17,top 19,top 20,top 21,top 22,top 24,top 25,top 26,top 27,top 28,top 29,top 30,top 31,top 33,top 34,top 35,top 37,top 38,top 39,top 41,top 42,top 43,top 44,top 45,top 46,top 47,top 48,top 49,top 50,top 51,top 52,top 53] } }
abbrev vZ:Shared->Bool:=fun s=>PySem.W.xlAt view [] s && PySem.W.recOk eV.records s
theorem seeP:Plain eV.prog 20000:=⟨by kernel_rfl,by kernel_rfl,by intro s;kernel_rfl⟩
theorem seeW:Dc.wellSaid=true:=by
 rw [aiX]
 kernel_rfl
theorem see0:iJ eV.prog 20000 (okT eV.prog) (fun _=>true):=by intro w os;kernel_rfl
theorem see1:iJ eV.prog 20000 (fun x=>(qw eV.prog view vZ x).1) (fun _=>acR view):=by intro w os;kernel_rfl
theorem see2:iJ eV.prog 20000 (fun x=>(qw eV.prog view vZ x).2.1) (fun _=>abE):=by intro w os;kernel_rfl
theorem see3:iJ eV.prog 20000 (fun x=>(qw eV.prog view vZ x).2.2.1) (fun _=>true):=by intro w os;kernel_rfl
theorem see4:iJ eV.prog 20000 (fun x=>(qw eV.prog view vZ x).2.2.2.1) (fun _=>true):=by intro w os;kernel_rfl
theorem see5:iJ eV.prog 20000 (fun x=>(qw eV.prog view vZ x).2.2.2.2.1) (fun _=>pinGoodD (acW view)):=by intro w os;kernel_rfl
theorem see6:iJ eV.prog 20000 (fun x=>(qw eV.prog view vZ x).2.2.2.2.2.1) (fun _=>acS view (PySem.W.looseW view [])):=by intro w os;kernel_rfl
theorem see7:iJ eV.prog 20000 (fun x=>(qw eV.prog view vZ x).2.2.2.2.2.2.1) (fun _=>acT view []):=by intro w os;kernel_rfl
theorem see8:iJ eV.prog 20000 (fun x=>(qw eV.prog view vZ x).2.2.2.2.2.2.2.1) (fun _=>PySem.W.wideGood view):=by intro w os;kernel_rfl
theorem see9:iJ eV.prog 20000 (fun x=>(qw eV.prog view vZ x).2.2.2.2.2.2.2.2) (fun _=>PySem.W.clsGoodW view []):=by intro w os;kernel_rfl
def ad9 (R:World->bh->(Str->Option Value)->Addr->Prop):Prop:=∀ {w:World} {K:bh} {h:Heap} {mg:Str->Option Value} {fa cX gW gK gY qx bw BW f'0 f'1 f'2 f'3 f'4 f'5 f'6 f'7 f'8 f'9 Qe VF VG VH VJ VL Qf VN VP VR Qg V0 V1 V2 V3 V4 Qh V5 V6 V7 V8 V9 Qi Wa Wb Wc Wd Wf Wg Wh Wj Wk Wl Wm Wo Wq Wr Ws Wt Wu Wv Ww Wx Z9:Addr} (X:K.In h) (G:h.Ns fG mg) (hfa:mg "law" = some (.ref fa))
  (YM:oR K fG "Rungs" = some (some (.ref cX)))
  (uF:CK K cX)
  (yS:NK K cX ["room","total","over","under","turns","least","most","rungs"])
  (YQ:oR K fG "Window" = some (some (.ref gW)))
  (qy:CK K gW)
  (vm:NK K gW ["room","reach","clock","boxes"])
  (YS:oR K fG "Distinct" = some (some (.ref gK)))
  (lF:CK K gK)
  (oZ:NK K gK ["room","arrivals","level","kept"])
  (YT:oR K fG "Frequent" = some (some (.ref gY)))
  (lG:CK K gY)
  (o8:NK K gY ["room","total","lost","counts"])
  (YW:oR K fG "Balance" = some (some (.ref qx)))
  (ni:CK K qx)
  (rB:NK K qx ["span","sums"])
  (YX:oR K fG "Keepsake" = some (some (.ref bw)))
  (lH:CK K bw)
  (o9:NK K bw ["room","reach","span","came","went","up","down","window","seen","balance"])
  (YZ:oR K fG "Unlike" = some (some (.ref BW)))
  (iK:Gi K BW [.type "ValueError",.type "Exception",.type "BaseException",.type "object"] "ValueError.__new__" = true)
  (a'0:GK K "with_thing" "with_thing" s'0 f'0)
  (a'1:GK K "left_behind" "left_behind" s'1 f'1)
  (a'2:GK K "risen" "risen" s'2 f'2)
  (a'3:MeK K cX "turn" "Rungs.turn" s'3 f'3)
  (a'4:MeK K cX "settle" "Rungs.settle" s'4 f'4)
  (a'5:GK K "lesser" "lesser" s'5 f'5)
  (a'6:GK K "greater" "greater" s'6 f'6)
  (a'7:MeK K cX "__init__" "Rungs.__init__" s'7 f'7)
  (a'8:MeK K cX "add" "Rungs.add" s'8 f'8)
  (a'9:GK K "joined" "joined" s'9 f'9)
  (N5:MeK K gW "__init__" "Window.__init__" s'10 Qe)
  (Qj:MeK K gW "settle" "Window.settle" s'11 VF)
  (Qk:MeK K gW "add" "Window.add" s'12 VG)
  (Ql:MeK K gW "idle" "Window.idle" s'13 VH)
  (Wy:GK K "spread" "spread" s'14 VJ)
  (Wz:GK K "mark" "mark" s'15 VL)
  (N6:MeK K gK "__init__" "Distinct.__init__" s'16 Qf)
  (WD:GK K "of_marks" "of_marks" s'17 VN)
  (Qm:MeK K gK "settle" "Distinct.settle" s'18 VP)
  (Qn:MeK K gK "add" "Distinct.add" s'19 VR)
  (N7:MeK K gY "__init__" "Frequent.__init__" s'20 Qg)
  (WK:GK K "cut_of" "cut_of" s'21 V0)
  (WL:GK K "lowered" "lowered" s'22 V1)
  (Qo:MeK K gY "fit" "Frequent.fit" s'23 V2)
  (Qp:MeK K gY "add" "Frequent.add" s'24 V3)
  (WM:GK K "with_row" "with_row" s'25 V4)
  (N8:MeK K qx "__init__" "Balance.__init__" s'26 Qh)
  (Qq:MeK K qx "put" "Balance.put" s'27 V5)
  (Qs:MeK K qx "take" "Balance.take" s'28 V6)
  (Qt:MeK K bw "put" "Keepsake.put" s'29 V7)
  (Qu:MeK K bw "take" "Keepsake.take" s'30 V8)
  (Qv:MeK K bw "idle" "Keepsake.idle" s'31 V9)
  (Oa:MeK K bw "__init__" "Keepsake.__init__" s'32 Qi)
  (WQ:GK K "_law_mix" "_law_mix" s'33 Wa)
  (WR:GK K "_law_far_back" "_law_far_back" s'34 Wb)
  (WT:GK K "_law_thing_by" "_law_thing_by" s'35 Wc)
  (WW:GK K "_law_weight_by" "_law_weight_by" s'36 Wd)
  (WX:GK K "_law_row_by" "_law_row_by" s'37 Wf)
  (WY:GK K "_law_shape_by" "_law_shape_by" s'38 Wg)
  (W0:GK K "_law_done" "_law_done" s'39 Wh)
  (W5:GK K "poured_frequent" "poured_frequent" s'40 Wj)
  (W6:GK K "list_at" "list_at" s'41 Wk)
  (W7:GK K "poured_rungs" "poured_rungs" s'42 Wl)
  (W8:GK K "followed" "followed" s'43 Wm)
  (W9:GK K "poured_balance" "poured_balance" s'44 Wo)
  (Xa:GK K "poured_distinct" "poured_distinct" s'45 Wq)
  (Xb:GK K "empty_like" "empty_like" s'46 Wr)
  (Xc:GK K "poured" "poured" s'47 Ws)
  (Xd:GK K "_law_totals_by" "_law_totals_by" s'48 Wt)
  (Xe:GK K "_law_counts_few" "_law_counts_few" s'49 Wu)
  (Xf:GK K "_law_rungs_few" "_law_rungs_few" s'50 Wv)
  (Xg:GK K "_law_boxes_few" "_law_boxes_few" s'51 Ww)
  (Xh:GK K "_law_few" "_law_few" s'52 Wx)
  (Jo:GK K "law" "law" s'53 Z9)
  (zk:ZK K ["dict","len","list","max","min","range","reversed","set","sorted","sum","zip"])
  {Y0:Tok}
  (Ob:oR K fG "MOST" = some (some (.int 1152921504606846976 Y0)))
  {qz:Tok}
  (jk:oR K fG "MOST_HALVINGS" = some (some (.int 60 qz)))
  {JV:Tok}
  (yU:oR K fG "SPREAD" = some (some (.int 770093176312745717 JV))),
  R w K mg fa
end My
section
open PySem PySem.W PyProof.Rows L2
local macro_rules
  | `(tactic| o_head $H) => `(tactic|
    (refine holds_open (r := My.eV) (q := My.view) (loose := []) (N := 20000)
        (Xt := My.vZ) (XP := XL My.view [])
        (Yf := Hook.obs $H) (Ya := Hook.val $H) (YP := Hook.says $H) ?hl (Hook.of $H) (Hook.keeps $H)
        (fun s e => xl_of s (adi.mp e).1) XL.keeps
        (by rfl) (by rfl) (by rfl)
        (fun s e => recFacts_of (adi.mp e).2) (by rfl)
        (by first | assumption | decide +kernel) tb_g%
        ⟨rfl, rfl, rfl, rfl, rfl, by decide +kernel⟩ ?hw ?hc;
     (case hl => exact My.ad8 My.seeP My.see0 My.see1 My.see2 My.see3 My.see4 My.see5 My.see6 My.see7 My.see8 My.see9 (by intro w os; kernel_rfl))))
local macro_rules
  | `(tactic| k_is) => `(tactic| first
    | (refine' My.LK.of ?lkl ?lkc ?lkk; (case lkl => k_is); (case lkc => k_is); (case lkk => k_is))
    | (refine' My.GK.of ?gka ?gkl; (case gka => k_is); (case gkl => k_is))
    | (refine' My.MeK.of ?mka ?mki ?mkl; (case mka => k_is); (case mki => k_is); (case mkl => k_is))
    | exact My.NK.nil
    | exact My.ZK.nil
    | (refine' My.NK.cons ?nka ?nkb; (case nka => k_is); (case nkb => k_is))
    | (refine' My.ZK.cons ?zka ?zkb; (case zka => k_is); (case zkb => k_is))
    | (refine' My.CK.of ?ck1 ?ck2 ?ck3 ?ck4 ?ck5 ?ck6; (case ck1 => k_is); (case ck2 => k_is); (case ck3 => k_is); (case ck4 => k_is); (case ck5 => k_is); (case ck6 => k_is))
    | fail)
open My in
set_option maxRecDepth 100000 in
set_option maxHeartbeats 0 in
theorem My.head (R:World->bh->(Str->Option Value)->Addr->Prop) (mk:My.ad9 R)
  (wk:∀ {q:aN} {loose:List Str} {XP:(Str->Option Value)->Heap->Prop} {YP:World->Heap->Prop} {d:Ms} {K:Bb->bh},Dc.most=some 63->d.params.defaults=[]->(∀ (w:World) (h:Heap),YP w h->(K w.params).In h)->(∀ (w:World) (mg:Str->Option Value) (fa:Addr) (h:Heap),(K w.params).In h->h.Ns fG mg->mg d.name=some (.ref fa)->R w (K w.params) mg fa)->Uu q loose XP YP Dc.row.toRowW d [] (fun f vs=>Lw f vs)):Dc.Holds:=by
 w_on;refine PySem.W.holds_law My.seeW fun said=>?_;k_head;(case hw=>w_witness2)
 k_fill
 refine wk rfl rfl (fun w h Y=>aiq Y) ?F
 case F =>
  intro w mg fa h KX G hmg
  refine' mk KX G hmg ?YM ?uF ?yS ?YQ ?qy ?vm ?YS ?lF ?oZ ?YT ?lG ?o8 ?YW ?ni ?rB ?YX ?lH ?o9 ?YZ ?iK ?a'0 ?a'1 ?a'2 ?a'3 ?a'4 ?a'5 ?a'6 ?a'7 ?a'8 ?a'9 ?N5 ?Qj ?Qk ?Ql ?Wy ?Wz ?N6 ?WD ?Qm ?Qn ?N7 ?WK ?WL ?Qo ?Qp ?WM ?N8 ?Qq ?Qs ?Qt ?Qu ?Qv ?Oa ?WQ ?WR ?WT ?WW ?WX ?WY ?W0 ?W5 ?W6 ?W7 ?W8 ?W9 ?Xa ?Xb ?Xc ?Xd ?Xe ?Xf ?Xg ?Xh ?Jo ?zk ?Ob ?jk ?yU
  (case YM=>k_is)
  (case uF=>k_is)
  (case yS=>k_is)
  (case YQ=>k_is)
  (case qy=>k_is)
  (case vm=>k_is)
  (case YS=>k_is)
  (case lF=>k_is)
  (case oZ=>k_is)
  (case YT=>k_is)
  (case lG=>k_is)
  (case o8=>k_is)
  (case YW=>k_is)
  (case ni=>k_is)
  (case rB=>k_is)
  (case YX=>k_is)
  (case lH=>k_is)
  (case o9=>k_is)
  (case YZ=>k_is)
  (case iK=>k_exc)
  (case a'0=>k_is)
  (case a'1=>k_is)
  (case a'2=>k_is)
  (case a'3=>k_is)
  (case a'4=>k_is)
  (case a'5=>k_is)
  (case a'6=>k_is)
  (case a'7=>k_is)
  (case a'8=>k_is)
  (case a'9=>k_is)
  (case N5=>k_is)
  (case Qj=>k_is)
  (case Qk=>k_is)
  (case Ql=>k_is)
  (case Wy=>k_is)
  (case Wz=>k_is)
  (case N6=>k_is)
  (case WD=>k_is)
  (case Qm=>k_is)
  (case Qn=>k_is)
  (case N7=>k_is)
  (case WK=>k_is)
  (case WL=>k_is)
  (case Qo=>k_is)
  (case Qp=>k_is)
  (case WM=>k_is)
  (case N8=>k_is)
  (case Qq=>k_is)
  (case Qs=>k_is)
  (case Qt=>k_is)
  (case Qu=>k_is)
  (case Qv=>k_is)
  (case Oa=>k_is)
  (case WQ=>k_is)
  (case WR=>k_is)
  (case WT=>k_is)
  (case WW=>k_is)
  (case WX=>k_is)
  (case WY=>k_is)
  (case W0=>k_is)
  (case W5=>k_is)
  (case W6=>k_is)
  (case W7=>k_is)
  (case W8=>k_is)
  (case W9=>k_is)
  (case Xa=>k_is)
  (case Xb=>k_is)
  (case Xc=>k_is)
  (case Xd=>k_is)
  (case Xe=>k_is)
  (case Xf=>k_is)
  (case Xg=>k_is)
  (case Xh=>k_is)
  (case Jo=>k_is)
  (case zk=>k_is)
  (case Ob=>k_is)
  (case jk=>k_is)
  (case yU=>k_is)
end
set_option Elab.async false
set_option linter.all false
set_option maxRecDepth 100000
namespace L2
open PySem PySem.Spec PyProof.Rows
variable {pins:List (Addr × Obj)} {E Q:Value->Shared->Prop} {s s':Shared} {w:World} {x name qual m:Str} {A:bC} {us:List Value} {e tg c l:Expr} {u:Value} {mg mA:Str->Option Value} {kindOf:Str->Option wM} {es:List Expr} {k t' i n:Nat} {h base h':Heap} {f:Value->Value->Sem Value} {kw:List (Str × Value)} {C dx it:Addr} {ps N:List Str} {fd:FuncData} {body:List Stmt} {outer:List Env} {fp ch:List Addr} {pl:Sem Bool} {g':Array GenState} {g:Int->Int->Int} {op:CmpOp} {pos' tpos p:Pos} {scope:Scope} {d':Drawn} {prog:aN} {α:Type}
noncomputable abbrev Key:=Sum Int Str
noncomputable def GJ:Key->Value->Bool
 | .inl k,v=>BP k v
 | .inr x,v=>adJ x v
noncomputable def keyH (w:World):Key->Int
 | .inl k=>hashInt k
 | .inr x=>hashStr w x
theorem fH:∀ {k:Key} {v:Value},GJ k v=true->(∃ i t,k=Sum.inl i/\v=Value.int i t)\/(∃ x t,k=Sum.inr x/\v=Value.str x t)
 | .inl i,v,h=>by
  obtain ⟨t,e⟩:=Value.isInt_shape (k:=i) (v:=v) h
  exact .inl ⟨i,t,rfl,e⟩
 | .inr x,v,h=>by
  obtain ⟨t,e⟩:=Value.isStrOf_shape (x:=x) (v:=v) h
  exact .inr ⟨x,t,rfl,e⟩
theorem aac (i:Int) (t:Tok):GJ (.inl i) (.int i t)=true:=by simp [GJ,BP]
theorem aad (x:Str) (t:Tok):GJ (.inr x) (.str x t)=true:=by simp [GJ,adJ]
theorem ajE (a b:Int):decide ((Sum.inl a:Key)=Sum.inl b)=(a == b):=by
 by_cases e:a=b
 ·subst e;simp
 ·have h:¬ (Sum.inl a:Key)=Sum.inl b:=fun q=>e (ad0 q)
  rw [decide_eq_false h]
  exact (beq_eq_false_iff_ne.mpr e).symm
theorem ajF (a b:Str):decide ((Sum.inr a:Key)=Sum.inr b)=decide (a=b):=by
 by_cases e:a=b
 ·subst e;simp
 ·have h:¬ (Sum.inr a:Key)=Sum.inr b:=fun q=>e (Sum.inr.inj q)
  rw [decide_eq_false h,decide_eq_false e]
theorem ajG (a:Int) (b:Str):decide ((Sum.inl a:Key)=Sum.inr b)=false:=decide_eq_false (fun q=>nomatch q)
theorem ajH (a:Str) (b:Int):decide ((Sum.inr a:Key)=Sum.inl b)=false:=decide_eq_false (fun q=>nomatch q)
noncomputable def cT (prog:aN) (w:World):PySem.KeyKind prog w Key where
 is:=GJ
 hash:=keyH w
 inj:=fun v a b ha hb=>by
  rcases fH ha with ⟨i,t,rfl,rfl⟩ | ⟨x,t,rfl,rfl⟩
  ·rcases fH hb with ⟨j,u,rfl,e⟩ | ⟨y,u,rfl,e⟩
   ·injection e with e1 _;rw [e1]
   ·exact nomatch e
  ·rcases fH hb with ⟨j,u,rfl,e⟩ | ⟨y,u,rfl,e⟩
   ·exact nomatch e
   ·injection e with e1 _;rw [e1]
 byValue:=fun k v h=>by
  rcases fH h with ⟨i,t,rfl,rfl⟩ | ⟨x,t,rfl,rfl⟩ <;> rfl
 pyHash:=fun hv h=>by
  rcases fH hv with ⟨i,t,rfl,rfl⟩ | ⟨x,t,rfl,rfl⟩
  ·exact wpAny_pyHash_int h
  ·exact wpAny_pyHash_str h
 eqBool:=fun hu hv h=>by
  rcases fH hu with ⟨i,t,rfl,rfl⟩ | ⟨x,t,rfl,rfl⟩
  ·rcases fH hv with ⟨j,u,rfl,rfl⟩ | ⟨y,u,rfl,rfl⟩
   ·rw [ajE] at h;exact wpAny_eqBool_int h
   ·rw [ajG] at h;exact adL i t y u _ _ _ _ h
  ·rcases fH hv with ⟨j,u,rfl,rfl⟩ | ⟨y,u,rfl,rfl⟩
   ·rw [ajH] at h;exact adM x t j u _ _ _ _ h
   ·rw [ajF] at h;exact wpAny_eqBool_str h
 «strs» := fun k x t v h=>by
  rcases fH h with ⟨i,u,rfl,e⟩ | ⟨y,u,rfl,e⟩
  ·exact nomatch e
  ·injection e with e1 _
   subst e1
   cases v <;> rfl
theorem Qw (prog:aN) (w:World) (i:Int) (t:Tok):(cT prog w).is (.inl i) (.int i t)=true:=aac i t
theorem Qx (prog:aN) (w:World) (x:Str) (t:Tok):(cT prog w).is (.inr x) (.str x t)=true:=aad x t
inductive V where
 | non | bl (b:Bool) | int (i:Int) | str (x:Str) | byt (b:Array UInt8) | flt (b:UInt64) | ref (a:Addr) | ty (n:String)
 deriving DecidableEq
variable {v y:V} {vs xs:List V}
noncomputable def RelV:V->Value->Prop
 | .non,u=>u=Value.none
 | .bl b,u=>u=Value.bool b
 | .int i,u=>∃ t,u=Value.int i t
 | .str x,u=>∃ t,u=Value.str x t
 | .byt b,u=>∃ t,u=Value.bytes b t
 | .flt b,u=>∃ t,u=Value.float b t
 | .ref a,u=>u=Value.ref a
 | .ty n,u=>u=Value.type n
noncomputable abbrev Vals:List V->List Value->Prop:=Paired RelV
theorem Vals.length (r:Vals xs us):xs.length=us.length:=Vy r
theorem Vals.get:∀ {xs:List V} {us:List Value} {i:Nat} {x:V},Vals xs us->xs[i]? = some x->∃ u,us[i]? = some u/\RelV x u
 | _,_,_,_,.nil,e=>by simp at e
 | _,_,0,_,.cons r _,e=>by simp at e;subst e;exact ⟨_,rfl,r⟩
 | _,_,i+1,x,.cons _ t,e=>by
  obtain ⟨u,h1,h2⟩:=Vals.get (i:=i) (x:=x) t (by simpa using e)
  exact ⟨u,by simpa using h1,h2⟩
theorem Vals.set {x:V} (r:RelV x u):∀ {xs:List V} {us:List Value} (i:Nat),Vals xs us->Vals (xs.set i x) (us.set i u)
 | _,_,_,.nil=>.nil
 | _,_,0,.cons _ t=>.cons r t
 | _,_,i+1,.cons q t=>.cons q (Vals.set r i t)
theorem Vals.append:∀ {xs ys:List V} {us ws:List Value},Vals xs us->Vals ys ws->Vals (xs++ys) (us++ws)
 | _,_,_,_,.nil,s=>s
 | _,_,_,_,.cons r t,s=>.cons r (Vals.append t s)
theorem Vals.take:∀ {xs:List V} {us:List Value} (n:Nat),Vals xs us->Vals (xs.take n) (us.take n)
 | _,_,0,_=>.nil
 | _,_,_+1,.nil=>.nil
 | _,_,n+1,.cons r t=>.cons r (Vals.take n t)
theorem Vals.drop:∀ {xs:List V} {us:List Value} (n:Nat),Vals xs us->Vals (xs.drop n) (us.drop n)
 | _,_,0,r=>r
 | _,_,_+1,.nil=>.nil
 | _,_,n+1,.cons _ t=>Vals.drop n t
theorem Vals.none_of:∀ {xs:List V} {us:List Value} {i:Nat},Vals xs us->xs[i]? = none->us[i]? = none:=fun {xs us i} r e=>by
 have h1:=r.length
 have h2:xs.length<=i:=Tv.mp e
 exact Tv.mpr tb_g%
noncomputable def tM:Option V->Option Value->Prop
 | some v,some u=>RelV v u
 | none,none=>True
 | _,_=>False
noncomputable def KV {κ:Type}:List (κ × V)->List (κ × Value)->Prop:=Paired fun (p:κ × V) (q:κ × Value)=>p.1=q.1/\RelV p.2 q.2
noncomputable def kV:Key->V
 | .inl i=>.int i
 | .inr x=>.str x
inductive HO where
 /-- a list -/
 | lst (xs:List V)
 /-- a tuple (never changes) -/
 | tup (xs:List V)
 /-- a dict whose keys are ints and texts;one whose keys are tuples of ints and texts (the empty one is both) -/
 | dK (kvs:List (Key × V)) | dT (kvs:List (List Key × V))
 /-- a set of ints: its members,its size -/
 | set (S:Int->Bool) (n:Nat)
 /-- an instance of the class at C,its dict at dx,its attributes -/
 | ins (C dx:Addr) (fs:List (Str × V))
 /-- the dict of the instance at x -/
 | own (x:Addr)
 /-- the dict of an exception -/
 | xd (fs:List (Str × V))
 /-- a bound method,f of x -/
 | met (f x:Addr)
 /-- a range object lo,lo+1,.. below hi -/
 | rng (lo hi:Int)
 /-- a thing that is known to the object (the script;a dict while a loop walks it): read,never written while it is so -/
 | frz (o:Obj) (u:HO)
 /-- a code object's table -/
 | tbl (ps:Array Value)
 /-- any other thing,by what is true of its one object (a def of one's own: SetO a S n:=HO.ext fun h=>..) -/
 | ext (φ:Heap->Prop)
variable {o:HO}
noncomputable abbrev Hp:=Addr->Option HO
variable {H H':Hp}
noncomputable def upd (H:Hp) (a:Addr) (o:HO):Hp:=fun b=>if b=a then some o else H b
theorem aj {a:Addr} :upd H a o a=some o:=by unfold upd;rw [if_pos rfl]
theorem au {a b:Addr} (h:b≠a):upd H a o b=H b:=by unfold upd;rw [if_neg h]
theorem cJ {a:Addr} {u:HO}:upd (upd H a o) a u=upd H a u:=by
 funext b;unfold upd;split <;> rfl
theorem jg {a b:Addr} {u:HO} (h:H a=some o) (h':H b=some u) (d:o≠u):a≠b:=by
 intro e;subst e;rw [h] at h';exact d (dB h')
theorem ak {a b:Addr} (h:H a=some o) (h':H b=none):a≠b:=by
 intro e;subst e;rw [h] at h';cases h'
section
variable (P:aN) (w:World)
noncomputable def eG (H:Hp) (h:Heap) (a:Addr):HO->Prop
 | .lst xs=>xs.length<=sizeLine/\∃ (its:List Value) (n:Nat),Vals xs its/\h.get? a=some { cls:=.type "list",data:=.seq its.toArray n }
 | .tup xs=>xs.length<=sizeLine/\∃ its:List Value,Vals xs its/\IsTup h a its.toArray
 | .dK kvs=>kvs.length<=sizeLine/\(a == pO)=false/\∃ vs,KV kvs vs/\h.DictOf (cT P w) a vs
 | .dT kvs=>kvs.length<=sizeLine/\(a == pO)=false/\∃ xs:List (List Key × Addr × Value),
   Paired (fun (p:List Key × V) (q:List Key × Addr × Value)=>p.1=q.1/\H q.2.1=some (.tup (p.1.map kV))/\RelV p.2 q.2.2) kvs xs /\
   ∃ o es ep,h.get? a=some o/\o.ExactDict/\o.data = .dict es ep/\es.toList=xs.map (entryOfKey (Ay (cT P w)))/\(xs.map (·.1)).Nodup
 | .set S n=>h.SetOf (iw P w) a S n
 | .ins C dx fs=>H dx=some (.own a)/\fs.length<=1000/\dx≠a/\h.get? a=some (uh C dx) /\
   ∃ mA,h.Ns1 dx mA/\(∀ f,tM (fs.lookup f) (mA f))/\S5 mA (fs.map (·.1))
 | .own _=>∃ o,h.get? a=some o
 | .xd fs=>∃ mA,h.Ns1 a mA/\∀ f,tM (fs.lookup f) (mA f)
 | .rng lo hi=>∃ t u v,h.get? a=some { cls:=.type "range",data:=.fields #[.int lo t,.int hi u,.int 1 v] }
 | .frz o u=>h.get? a=some o/\eG H h a u
 | .tbl ps=>h.get? a=some { cls:=.none,data:=.fields ps }
 | .met f x=>h.get? a=some (Uo (.ref f) (.ref x))
 | .ext φ=>φ h/\(∃ o,h.get? a=some o)/\∀ h1 h2:Heap,φ h1->(∀ o,h1.get? a=some o->h2.get? a=some o)->φ h2
noncomputable def HOk (H:Hp) (h:Heap):Prop:=∀ a o,H a=some o->eG P w H h a o
end
section
variable {P:aN} {a:Addr}
theorem eG.lt (x:eG P w H h a o):a<h.objs.size:=by
 cases o with
 | lst xs=>obtain ⟨_,_,_,_,e⟩:=x;exact bR e
 | tup xs=>obtain ⟨_,_,_,p⟩:=x;exact p.lt
 | dK kvs=>obtain ⟨_,_,_,_,o,_,_,e,_⟩:=x;exact bR e
 | dT kvs=>obtain ⟨_,_,_,_,o,_,_,e,_⟩:=x;exact bR e
 | set S n=>obtain ⟨o,_,_,_,e,_⟩:=x;exact bR e
 | ins C dx fs=>obtain ⟨_,_,_,e,_⟩:=x;exact bR e
 | own y=>obtain ⟨_,e⟩:=x;exact bR e
 | xd fs=>obtain ⟨_,⟨_,_,_,e,_⟩,_⟩:=x;exact bR e
 | rng lo hi=>obtain ⟨_,_,_,e⟩:=x;exact bR e
 | frz ob u=>obtain ⟨e,_⟩:=x;exact bR e
 | tbl ps=>exact bR (show h.get? a=some _ from x)
 | met f y=>exact bR (show h.get? a=some _ from x)
 | ext φ=>obtain ⟨_,⟨_,e⟩,_⟩:=x;exact bR e
theorem Paired.mapP {β:Type} {F G:α->β->Prop}:∀ {l₁:List α} {l₂:List β},Paired F l₁ l₂->(∀ a b,F a b->G a b)->Paired G l₁ l₂
 | _,_,.nil,_=>.nil
 | _,_,.cons r t,f=>.cons (f _ _ r) (Paired.mapP t f)
theorem eG.stay (x:eG P w H h a o) (k:∀ b u,(b=a\/H b=some (.own a))->h.get? b=some u->h'.get? b=some u)
  (ho:∀ b,H b=some (.own a)->H' b=some (.own a)) (ht:∀ b xs,H b=some (.tup xs)->H' b=some (.tup xs)):eG P w H' h' a o:=by
 induction o with
 | lst xs=>obtain ⟨z,its,n,r,e⟩:=x;exact ⟨z,its,n,r,k _ _ (.inl rfl) e⟩
 | tup xs=>obtain ⟨z,its,r,ob,e,c⟩:=x;exact ⟨z,its,r,ob,k _ _ (.inl rfl) e,c⟩
 | dK kvs=>obtain ⟨z,y,vs,r,ob,es,ep,e,c⟩:=x;exact ⟨z,y,vs,r,ob,es,ep,k _ _ (.inl rfl) e,c⟩
 | dT kvs =>
  obtain ⟨z,y,xs,r,ob,es,ep,e,c⟩:=x
  exact ⟨z,y,xs,Paired.mapP r fun p q z=>⟨z.1,ht _ _ z.2.1,z.2.2⟩,ob,es,ep,k _ _ (.inl rfl) e,c⟩
 | set S n=>obtain ⟨ob,es,ep,t,e,c⟩:=x;exact ⟨ob,es,ep,t,k _ _ (.inl rfl) e,c⟩
 | ins C dx fs =>
  obtain ⟨d,z,ne,e,mA,⟨od,es,ep,e2,c⟩,r⟩:=x
  exact ⟨ho _ d,z,ne,k _ _ (.inl rfl) e,mA,⟨od,es,ep,k _ _ (.inr d) e2,c⟩,r⟩
 | own y=>obtain ⟨ob,e⟩:=x;exact ⟨ob,k _ _ (.inl rfl) e⟩
 | xd fs=>obtain ⟨mA,⟨od,es,ep,e,c⟩,r⟩:=x;exact ⟨mA,⟨od,es,ep,k _ _ (.inl rfl) e,c⟩,r⟩
 | rng lo hi=>obtain ⟨t,u,v,e⟩:=x;exact ⟨t,u,v,k _ _ (.inl rfl) e⟩
 | frz ob u ih=>obtain ⟨e,q⟩:=x;exact ⟨k _ _ (.inl rfl) e,ih q⟩
 | tbl ps =>
  have e:h.get? a=some { cls:=.none,data:=.fields ps }:=x
  show h'.get? a=some { cls:=.none,data:=.fields ps }
  exact k a _ (.inl rfl) e
 | met f y =>
  have e:h.get? a=some (Uo (.ref f) (.ref y)):=x
  show h'.get? a=some (Uo (.ref f) (.ref y))
  exact k a _ (.inl rfl) e
 | ext φ=>obtain ⟨p,⟨o,e⟩,st⟩:=x;exact ⟨st _ _ p fun o q=>k _ _ (.inl rfl) q,⟨o,k _ _ (.inl rfl) e⟩,st⟩
theorem HOk.lt (x:HOk P w H h) (e:H a=some o):a<h.objs.size:=(x a o e).lt
theorem HOk.fresh (x:HOk P w H h) (e:h.objs.size<=a):H a=none:=by
 cases q:H a with
 | none=>rfl
 | some u=>exact absurd (gF (x.lt q) e) (oU _)
theorem HOk.kept (x:HOk P w H h) (k:∀ b u,h.get? b=some u->h'.get? b=some u):HOk P w H h':=fun a o e =>
 (x a o e).stay (fun b u _ q=>k b u q) (fun _ q=>q) fun _ _ q=>q
theorem HOk.laid (x:HOk P w H h) (k:∀ b u,h.get? b=some u->h'.get? b=some u) (hp:h.objs.size<=a) (new:eG P w (upd H a o) h' a o):HOk P w (upd H a o) h':=fun b u e=>by
 have hn:=x.fresh hp
 by_cases hb:b=a
 ·subst hb;rw [aj] at e;cases e;exact new
 ·rw [au hb] at e
  exact (x b u e).stay (fun c v _ q=>k c v q) (fun c q=>by rw [au (ak q hn)];exact q) fun c xs q=>by rw [au (ak q hn)];exact q
end
noncomputable def Rd (H:Hp) (a:Addr) (u:HO):Prop:=H a=some u\/∃ o,H a=some (.frz o u)
theorem Rd.ok {P:aN} {a:Addr} {u:HO} (r:Rd H a u) (x:HOk P w H h):eG P w H h a u:=by
 rcases r with r | ⟨o,r⟩
 ·exact x a u r
 ·obtain ⟨_,q⟩:=x a _ r
  exact q
noncomputable def Mut:Option HO->Prop
 | some (.lst _)=>True
 | some (.dK _)=>True
 | some (.dT _)=>True
 | some (.set _ _)=>True
 | some (.ins _ _ _)=>True
 | some (.ext _)=>True
 | _=>False
section
variable {P:aN} {x e:Addr} {o':HO}
theorem HOk.write (ok:HOk P w H h) (mu:Mut (H x)) (he:e=x\/H e=some (.own x)) (k:∀ b u,b≠e->h.get? b=some u->h'.get? b=some u) (heo:∃ u,h'.get? e=some u)
  (new:eG P w (upd H x o') h' x o'):HOk P w (upd H x o') h':=fun b u q=>by
 have nown:∀ c y,H c=some (.own y)->c≠x:=fun c y r z=>by subst z;rw [r] at mu;exact mu
 have ntup:∀ c xs,H c=some (.tup xs)->c≠x:=fun c xs r z=>by subst z;rw [r] at mu;exact mu
 by_cases hb:b=x
 ·subst hb;rw [aj] at q;cases q;exact new
 ·rw [au hb] at q
  by_cases hbe:b=e
  ·have q':H b=some (.own x):=by
    rcases he with z | z
    ·exact absurd (hbe.trans z) hb
    ·rw [hbe];exact z
   rw [q] at q';cases q'
   obtain ⟨v,hv⟩:=heo
   exact ⟨v,by rw [hbe];exact hv⟩
  ·refine (ok b u q).stay (fun c v hc r=>k c v ?_ r) (fun c r=>by rw [au (nown c b r)];exact r) fun c xs r=>by rw [au (ntup c xs r)];exact r
   rcases hc with rfl | hc
   ·exact hbe
   ·rintro rfl
    rcases he with z | z
    ·exact nown c b hc z
    ·rw [hc] at z;cases z;exact hb rfl
end
structure Un (fs ex:List Addr) (H H':Hp) (h h':Heap):Prop where
 keep:∀ b o,h.get? b=some o->H b=none->b∉fs->b∉ex->h'.get? b=some o
 slot:∀ b o,h.get? b=some o->H b=none->b∈fs->b∉ex->∃ sl,h'.get? b=some { o with slots:=sl }
 free:∀ b o,h.get? b=some o->H b=none->b∉ex->H' b=none
 there:∀ b o,h.get? b=some o->b∉ex->∃ o',h'.get? b=some o'
 tups:∀ b xs,H b=some (.tup xs)->H' b=some (.tup xs)
 yV:∀ b o u,H b=some (.frz o u)->H' b=some (.frz o u)
 DX:∀ b ps,H b=some (.tbl ps)->∃ more,H' b=some (.tbl (ps++more))
section
variable {fs fs' ex ex':List Addr} {H1 H2:Hp} {h1 h2:Heap} {a x e:Addr}
theorem Un.any (u:Un fs ex H H1 h h1) {b:Addr} {ob:Obj} (q:h.get? b=some ob) (n:H b=none) (hx:b∉ex):∃ sl,h1.get? b=some { ob with slots:=sl }:=by
 by_cases hb:b∈fs
 ·exact u.slot b ob q n hb hx
 ·exact ⟨ob.slots,u.keep b ob q n hb hx⟩
theorem Un.kept (k:∀ b u,h.get? b=some u->h'.get? b=some u):Un fs ex H H h h' :=
 ⟨fun b ob q _ _ _=>k b ob q,fun b ob q _ _ _=>⟨ob.slots,k b ob q⟩,fun _ _ _ n _=>n,fun b ob q _=>⟨ob,k b ob q⟩,fun _ _ q=>q,fun _ _ _ q=>q,fun _ ps q=>⟨#[],by rw [q];simp⟩⟩
theorem Un.refl:Un fs ex H H h h:=Un.kept fun _ _ q=>q
theorem Un.laid (k:∀ b u,h.get? b=some u->h'.get? b=some u) (hp:h.objs.size<=a) (hn:H a=none):Un fs ex H (upd H a o) h h' where
 keep:=fun b u q _ _ _=>k b u q
 slot:=fun b u q _ _ _=>⟨u.slots,k b u q⟩
 free:=fun b u q n _=>by rw [au (cO (gF (bR q) hp))];exact n
 there:=fun b u q _=>⟨u,k b u q⟩
 tups:=fun b xs q=>by rw [au (ak q hn)];exact q
 yV:=fun b u xs q=>by rw [au (ak q hn)];exact q
 DX:=fun b ps q=>⟨#[],by rw [au (ak q hn),q];simp⟩
theorem Un.write (mu:Mut (H x)) (he:e=x\/H e=some (.own x)) (k:∀ b u,b≠e->h.get? b=some u->h'.get? b=some u) (heo:∃ u,h'.get? e=some u):Un fs ex H (upd H x o) h h':=by
 have hx:∀ b,H b=none->b≠x:=fun b n z=>by subst z;rw [n] at mu;exact mu
 have hb:∀ b,H b=none->b≠e:=fun b n z=>by
  subst z
  rcases he with r | r
  ·exact hx b n r
  ·rw [n] at r;cases r
 have hm:∀ b u,H b=some u->¬ Mut (some u)->b≠x:=fun b u q nm z=>by subst z;rw [q] at mu;exact nm mu
 refine ⟨fun b u q n _ _=>k b u (hb b n) q,fun b u q n _ _=>⟨u.slots,k b u (hb b n) q⟩,fun b u q n _=>by rw [au (hx b n)];exact n,fun b u q _=>?_,
  fun b xs q=>by rw [au (hm b _ q fun z=>z)];exact q,fun b u xs q=>by rw [au (hm b _ q fun z=>z)];exact q,fun b ps q=>⟨#[],by rw [au (hm b _ q fun z=>z),q];simp⟩⟩
 by_cases hbe:b=e
 ·subst hbe;exact heo
 ·exact ⟨u,k b u hbe q⟩
end
noncomputable def trk (h:Heap) (H:Hp):List Addr:=(mZ h.objs.size).filter fun a=>(H a).isSome
noncomputable def Oc (h:Heap) (H:Hp):Heap:=acz h (trk h H)
theorem aae (h:Heap) (H:Hp):(Oc h H).objs.size=h.objs.size:=PySem.W.hideAll_size _ _
theorem aea {b:Addr} {o:Obj} (e:h.get? b=some o) (n:H b=none):(Oc h H).get? b=some o :=
 Uk _ e fun hm=>by
  have q:(H b).isSome=true:=(xr.mp hm).2
  rw [n] at q;simp at q
theorem agq {b:Addr} {o:Obj} (e:(Oc h H).get? b=some o):h.get? b=some o/\H b=none:=by
 have e':h.get? b=some o:=acs (trk h H) e
 refine ⟨e',?_⟩
 cases q:H b with
 | none=>rfl
 | some x =>
  have hm:b∈trk h H:=xr.mpr ⟨Mv.mpr (bR e'),by simp [q]⟩
  have z:(Oc h H).get? b=none:=PySem.W.hideAll_none (trk h H) hm
  rw [z] at e;cases e
noncomputable def agr (g h:Heap) (L:Addr):List (Addr × Obj):=(mZ h.objs.size).filterMap fun a=>if a=L\/(g.get? a).isSome=true then none else (h.get? a).map fun o=>(a,o)
noncomputable def rest (g h:Heap) (L d:Addr):List (Addr × Obj):=(agr g h L).filter fun p=>decide (p.1≠d)
structure Mod (K:bh) (mg:Str->Option Value) (base:Heap):Prop where
 kin:K.In base
 glob:base.Ns fG mg
 blt:∃ mb,base.Ns Td mb/\∀ x:Str,x ≠ "__name__" -> mb x=Fv x
 nolimit:base.NoLimit
structure Cx where
 prog:aN
 w:World
 K:bh
 mg:Str->Option Value
 base:Heap
 A:bC
 N:List Str
 s₀:Shared
 H₀:Hp
 env:Env
 outer:List Env
 stack:List Env
 ex:List Addr
 fn:Str->Bool
 calm:Bool
 pn:List (Addr × Obj)
 xe:Value->Shared->Prop
variable {X:Cx}
noncomputable def frs (l:List Env):List Addr:=l.filterMap (·.frame)
noncomputable abbrev Cx.fs (X:Cx):List Addr:=frs X.outer
noncomputable def Vis (sc:Scope) (x:Str):Prop:=sc.names.lookup x=some .local\/sc.names.lookup x=some .cell\/sc.names.lookup x=some .free
noncomputable def Loc (sc:Scope) (x:Str):Prop:=sc.names.lookup x=some .local\/sc.names.lookup x=some .cell
noncomputable def Look (env:Env) (h:Heap) (m:Str->Option Value) (x:Str) (u:Value):Prop :=
 (env.kindOf x=some .local/\m x=some u)\/((env.kindOf x=some .cell\/env.kindOf x=some .free)/\∃ c,env.cells.lookup x=some c/\h.IsCell c (some u))
structure Cx.Ok (X:Cx):Prop where
 mod:Mod X.K X.mg X.base
 kind:X.env.scope.kind = .function
 glob:X.env.globals=fG
 blt:X.env.builtins=Td
 above:X.s₀.heap.objs.size<=X.env.locals
 inj:∀ x y c,X.env.cells.lookup x=some c->X.env.cells.lookup y=some c->x=y
 has:∀ x,(X.env.kindOf x=some .cell\/X.env.kindOf x=some .free)->∃ c,X.env.cells.lookup x=some c
 cab:∀ x c,X.fn x=true->X.env.cells.lookup x=some c->X.s₀.heap.objs.size<=c
 hd:X.calm=true->X.A.handled=none
 frames:X.A.frames=some X.stack
 stk:X.stack=X.outer\/(X.stack=X.env::X.outer/\X.env.frame=some X.env.locals)
 exf:∀ b∈X.ex,b≠X.env.locals/\∀ x c,X.env.cells.lookup x=some c->c≠b
 bs:∀ b o,X.base.get? b=some o->X.s₀.heap.get? b=some o/\X.H₀ b=none
 bsz:X.base.objs.size<=X.s₀.heap.objs.size
 aaf:∀ b o,X.base.get? b=some o->b∉X.ex
 exfs:∀ b∈X.ex,b∉X.fs
 BX:X.s₀.heap.FunFrames X.base X.outer
 frf:∀ b∈X.fs,X.H₀ b=none
structure Inv (X:Cx) (pins:List (Addr × Obj)) (σ:List (Option V)) (H:Hp) (s:Shared):Prop where
 ok:X.Ok
 os:s.os=X.s₀.os
 bare:qY s.gens
 base:Un X.fs X.ex X.H₀ H X.s₀.heap s.heap
 loc:∃ m,s.heap.Ns X.env.locals m/\∀ (i:Nat) (x:Str) (v:V),X.N[i]? = some x->σ[i]? = some (some v)->Vis X.env.scope x->∃ u,RelV v u/\Look X.env s.heap m x u
 cell:∀ x c,X.env.cells.lookup x=some c->∃ v,s.heap.IsCell c v
 free:H X.env.locals=none
 qC:∀ x c,X.env.cells.lookup x=some c->H c=none
 pin:∀ p∈X.pn++pins,s.heap.get? p.1=some p.2/\H p.1=none/\p.1≠X.env.locals/\p.1∉X.fs/\∀ v,p.2.data ≠ .cell v
 hok:HOk X.prog X.w H s.heap
 len:σ.length=X.N.length
section
variable {σ:List (Option V)}
theorem Cx.Ok.nofr (ok:X.Ok) {b:Addr} {o:Obj} (e:X.base.get? b=some o):b∉X.fs:=fun hb=>by
 have:=(ok.BX.mem hb).1
 rw [e] at this;cases this
theorem Inv.bs (I:Inv X pins σ H s):∀ b o,X.base.get? b=some o->s.heap.get? b=some o/\H b=none:=fun b o e =>
 ⟨I.base.keep b o (I.ok.bs b o e).1 (I.ok.bs b o e).2 (I.ok.nofr e) (I.ok.aaf b o e),I.base.free b o (I.ok.bs b o e).1 (I.ok.bs b o e).2 (I.ok.aaf b o e)⟩
theorem Inv.bk (I:Inv X pins σ H s):∀ b o,X.base.get? b=some o->s.heap.get? b=some o:=fun b o e=>(I.bs b o e).1
theorem Inv.mod (I:Inv X pins σ H s):Mod X.K X.mg X.base:=I.ok.mod
theorem Inv.kIn (I:Inv X pins σ H s):X.K.In s.heap:=I.ok.mod.kin.keeps I.bk
theorem Inv.nolimit (I:Inv X pins σ H s):s.heap.NoLimit:=I.ok.mod.nolimit.keeps I.bk
theorem Inv.lt (I:Inv X pins σ H s):X.env.locals<s.heap.objs.size:=let ⟨_,hn,_⟩:=I.loc;hn.lt
theorem Inv.sz (I:Inv X pins σ H s):X.s₀.heap.objs.size<=s.heap.objs.size:=iC I.ok.above (mH I.lt)
theorem Inv.nofs (I:Inv X pins σ H s) {a:Addr} (h:s.heap.objs.size<=a):a∉X.fs:=fun hb=>by
 obtain ⟨_,o,ho,_⟩:=I.ok.BX.mem hb
 exact absurd (gF (bR ho) (iC I.sz h)) (oU _)
theorem Inv.cne (I:Inv X pins σ H s):∀ x c,X.env.cells.lookup x=some c->c≠X.env.locals:=fun x c e z=>by
 obtain ⟨v,o,ho,hd⟩:=I.cell x c e
 obtain ⟨m,⟨o',es,ep,ho',hd',_⟩,_⟩:=I.loc
 rw [z,ho'] at ho;cases ho;rw [hd'] at hd;cases hd
theorem Inv.BX (I:Inv X pins σ H s):s.heap.FunFrames X.base X.outer:=by
 have all:∀ (l:List Env),(∀ b∈frs l,b∈X.fs)->X.s₀.heap.FunFrames X.base l->s.heap.FunFrames X.base l:=by
  intro l
  induction l with
  | nil=>intro _ _;trivial
  | cons env r ih =>
   intro hs hl
   obtain ⟨hk,⟨L,o,hf,hn,ho,hd⟩,hr⟩:=hl
   have hL:L∈X.fs:=hs L (by unfold frs;rw [CW,hf];exact cZ)
   obtain ⟨sl,e⟩:=I.base.slot L o ho (I.ok.frf L hL) hL fun z=>I.ok.exfs L z hL
   exact ⟨hk,⟨L,_,hf,hn,e,hd⟩,ih (fun b hb=>hs b (by unfold frs;rw [CW,hf];exact gk _ hb)) hr⟩
 exact all X.outer (fun _ hb=>hb) I.ok.BX
theorem Inv.stack (I:Inv X pins σ H s):s.heap.FunFrames X.base X.stack:=by
 rcases I.ok.stk with e | ⟨e,hf⟩
 ·rw [e];exact I.BX
 ·rw [e]
  obtain ⟨m,hn,_⟩:=I.loc
  refine .cons (by rw [I.ok.kind];decide) hf hn ?_ I.BX
  exact aco (iC I.ok.bsz I.ok.above)
theorem Inv.xW (I:Inv X pins σ H s):∀ b∈frs X.stack,b∈X.env.locals::X.fs:=fun b hb=>by
 rcases I.ok.stk with e | ⟨e,hf⟩
 ·rw [e] at hb;exact gk _ hb
 ·rw [e] at hb
  unfold frs at hb
  rw [CW,hf] at hb
  exact hb
theorem Inv.Ep (I:Inv X pins σ H s):∀ b∈frs X.stack,H b=none:=fun b hb=>by
 rcases cU.mp (I.xW b hb) with e | hb
 ·rw [e];exact I.free
 ·obtain ⟨_,o,ho,_⟩:=I.ok.BX.mem hb
  exact I.base.free b o ho (I.ok.frf b hb) fun z=>I.ok.exfs b z hb
theorem Inv.step (I:Inv X pins σ H s)
  (hch:∀ b∈ch,(b∈X.ex\/X.s₀.heap.objs.size<=b)/\b≠X.env.locals/\(∀ x c,X.env.cells.lookup x=some c->c≠b)/\∀ p∈X.pn++pins,p.1≠b)
  (keep:∀ b o,b≠X.env.locals->b∉X.fs->b∉ch->s.heap.get? b=some o->H b=none->h'.get? b=some o)
  (slot:∀ b o,b≠X.env.locals->b∈X.fs->b∉ch->s.heap.get? b=some o->H b=none->∃ sl,h'.get? b=some { o with slots:=sl }) (free:∀ b o,b∉ch->s.heap.get? b=some o->H b=none->H' b=none)
  (there:∀ b o,b∉ch->s.heap.get? b=some o->∃ o',h'.get? b=some o')
  (tups:∀ b xs,H b=some (.tup xs)->H' b=some (.tup xs)) (yV:∀ b o u,H b=some (.frz o u)->H' b=some (.frz o u)) (DX:∀ b ps,H b=some (.tbl ps)->∃ more,H' b=some (.tbl (ps++more)))
  (ns:∀ m,s.heap.Ns X.env.locals m->h'.Ns X.env.locals m) (hok:HOk X.prog X.w H' h') (hg:qY g') :
  Inv X pins σ H' { s with heap:=h',gens:=g',drawn:=d',toks:=t' }:=by
 have neL:∀ b o,X.s₀.heap.get? b=some o->b≠X.env.locals:=fun b o e=>cO (gF (bR e) I.ok.above)
 have neC:∀ b o,X.s₀.heap.get? b=some o->b∉X.ex->b∉ch:=fun b o e hx hb=>by
  rcases (hch b hb).1 with z | z
  ·exact hx z
  ·exact absurd (gF (bR e) z) (oU _)
 have cellK:∀ x c,X.env.cells.lookup x=some c->∀ v,s.heap.IsCell c v->h'.IsCell c v:=fun x c e v ⟨o,ho,hd⟩=>by
  have nch:c∉ch:=fun z=>(hch c z).2.2.1 x c e rfl
  by_cases hc:c∈X.fs
  ·obtain ⟨sl,q⟩:=slot c o (I.cne x c e) hc nch ho (I.qC x c e)
   exact ⟨_,q,hd⟩
  ·exact ⟨o,keep c o (I.cne x c e) hc nch ho (I.qC x c e),hd⟩
 refine ⟨I.ok,I.os,hg,⟨fun b o e n hb hx=>?_,fun b o e n hb hx=>?_,fun b o e n hx=>?_,fun b o e hx=>?_,fun b xs e=>tups b xs (I.base.tups b xs e),fun b o xs e=>yV b o xs (I.base.yV b o xs e),fun b ps e=>?_⟩,?_,fun x c e=>?_,?_,fun x c e=>?_,fun p hp=>?_,hok,I.len⟩
 ·exact keep b o (neL b o e) hb (neC b o e hx) (I.base.keep b o e n hb hx) (I.base.free b o e n hx)
 ·obtain ⟨sl,e1⟩:=I.base.slot b o e n hb hx
  obtain ⟨sl',e2⟩:=slot b _ (neL b o e) hb (neC b o e hx) e1 (I.base.free b o e n hx)
  exact ⟨sl',e2⟩
 ·obtain ⟨o',e1⟩:=I.base.there b o e hx
  exact free b o' (neC b o e hx) e1 (I.base.free b o e n hx)
 ·obtain ⟨o',e1⟩:=I.base.there b o e hx
  exact there b o' (neC b o e hx) e1
 ·obtain ⟨m1,e1⟩:=I.base.DX b ps e
  obtain ⟨m2,e2⟩:=DX b _ e1
  exact ⟨m1++m2,by rw [e2,Array.append_assoc]⟩
 ·obtain ⟨m,hn,hl⟩:=I.loc
  refine ⟨m,ns m hn,fun i x v e1 e2 e3=>?_⟩
  obtain ⟨u,r,l⟩:=hl i x v e1 e2 e3
  refine ⟨u,r,?_⟩
  rcases l with l | ⟨k,c,e,z⟩
  ·exact .inl l
  ·exact .inr ⟨k,c,e,cellK x c e _ z⟩
 ·obtain ⟨v,z⟩:=I.cell x c e
  exact ⟨v,cellK x c e v z⟩
 ·obtain ⟨m,⟨o,_,_,ho,_⟩,_⟩:=I.loc
  exact free _ o (fun z=>(hch _ z).2.1 rfl) ho I.free
 ·obtain ⟨v,o,ho,hd⟩:=I.cell x c e
  exact free c o (fun z=>(hch c z).2.2.1 x c e rfl) ho (I.qC x c e)
 ·obtain ⟨e,n,ne,nf,d⟩:=I.pin p hp
  have nch:p.1∉ch:=fun z=>(hch p.1 z).2.2.2 p hp rfl
  exact ⟨keep p.1 p.2 ne nf nch e n,free p.1 p.2 nch e n,ne,nf,d⟩
theorem Inv.un (I:Inv X pins σ H s) (u:Un X.fs [] H H' s.heap h') (hok:HOk X.prog X.w H' h'):Inv X pins σ H' { s with heap:=h',toks:=t' }:=by
 obtain ⟨m,⟨o,es,ep,ho,r⟩,_⟩:=id I.loc
 obtain ⟨sl,hL⟩:=u.any ho I.free (by simp)
 exact I.step (g':=s.gens) (d':=s.drawn) (ch:=[]) (fun _ z=>nomatch z) (fun b o _ hb _ e n=>u.keep b o e n hb (by simp)) (fun b o _ hb _ e n=>u.slot b o e n hb (by simp)) (fun b o _ e n=>u.free b o e n (by simp)) (fun b o _ e=>u.there b o e (by simp)) u.tups u.yV u.DX (fun m' hm=>by
  obtain ⟨o',es',ep',ho',r'⟩:=hm
  rw [ho] at ho';cases ho'
  exact ⟨_,es',ep',hL,r'⟩) hok I.bare
theorem Inv.call (I:Inv X pins σ H s) (u:Un (frs X.stack) ch H H' s.heap h') (hok:HOk X.prog X.w H' h') (hg:qY g')
  (hch:∀ b∈ch,(b∈X.ex\/X.s₀.heap.objs.size<=b)/\b≠X.env.locals/\(∀ x c,X.env.cells.lookup x=some c->c≠b)/\∀ p∈X.pn++pins,p.1≠b) :
  Inv X pins σ H' { s with heap:=h',gens:=g',drawn:=d',toks:=t' }:=by
 obtain ⟨m,⟨o,es,ep,ho,r⟩,_⟩:=id I.loc
 obtain ⟨sl,hL⟩:=u.any ho I.free fun z=>(hch _ z).2.1 rfl
 exact I.step (ch:=ch) hch (fun b o hL hb hc e n=>u.keep b o e n (fun z=>(cU.mp (I.xW b z)).elim hL hb) hc) (fun b o _ _ hc e n=>u.any e n hc) (fun b o hc e n=>u.free b o e n hc) (fun b o hc e=>u.there b o e hc) u.tups u.yV u.DX (fun m' hm=>by
  obtain ⟨o',es',ep',ho',r'⟩:=hm
  rw [ho] at ho';cases ho'
  exact ⟨_,es',ep',hL,r'⟩) hok hg
theorem Inv.turned (I:Inv X pins σ H s) (k:∀ b o,b≠it->s.heap.get? b=some o->h'.get? b=some o) (hn:H it=none) (hL:it≠X.env.locals)
  (h1:it∈X.ex\/X.s₀.heap.objs.size<=it) (h2:∀ x c,X.env.cells.lookup x=some c->c≠it) (h3:∀ p∈X.pn++pins,p.1≠it):Inv X pins σ H { s with heap:=h',toks:=t' }:=by
 have nit:∀ b u,H b=some u->b≠it:=fun b u e z=>by rw [z,hn] at e;cases e
 refine I.step (g':=s.gens) (d':=s.drawn) (ch:=[it]) (fun b hb=>?_) (fun b o _ _ hc e _=>k b o (fun z=>hc (by simp [z])) e) (fun b o _ _ hc e _=>⟨o.slots,k b o (fun z=>hc (by simp [z])) e⟩) (fun _ _ _ _ n=>n)
  (fun b o hc e=>⟨o,k b o (fun z=>hc (by simp [z])) e⟩) (fun _ _ e=>e) (fun _ _ _ e=>e) (fun b ps e=>⟨#[],by rw [e];simp⟩) (fun m hm=>?_) (fun b u e=>?_) I.bare
 ·have e:b=it:=by simpa using hb
  subst e
  exact ⟨h1,hL,h2,h3⟩
 ·obtain ⟨o,es,ep,ho,r⟩:=hm
  exact ⟨o,es,ep,k _ o (aK hL) ho,r⟩
 ·refine (I.hok b u e).stay (fun c v hc q=>k c v ?_ q) (fun _ q=>q) fun _ _ q=>q
  rcases hc with z | z
  ·rw [z];exact nit b u e
  ·exact nit c _ z
theorem Inv.tok (I:Inv X pins σ H s) (t:Nat):Inv X pins σ H { s with toks:=t }:=I.un (h':=s.heap) (t':=t) Un.refl I.hok
theorem Inv.kept (I:Inv X pins σ H s) (k:∀ b u,s.heap.get? b=some u->h'.get? b=some u):Inv X pins σ H { s with heap:=h',toks:=t' }:=I.un (Un.kept k) (I.hok.kept k)
theorem Inv.laid {a:Addr} (I:Inv X pins σ H s) (k:∀ b u,s.heap.get? b=some u->h'.get? b=some u) (hp:s.heap.objs.size<=a) (new:eG X.prog X.w (upd H a o) h' a o) :
  Inv X pins σ (upd H a o) { s with heap:=h',toks:=t' }:=I.un (Un.laid k hp (I.hok.fresh hp)) (I.hok.laid k hp new)
theorem Inv.write {x e:Addr} (I:Inv X pins σ H s) (mu:Mut (H x)) (he:e=x\/H e=some (.own x)) (k:∀ b u,b≠e->s.heap.get? b=some u->h'.get? b=some u) (heo:∃ u,h'.get? e=some u)
  (new:eG X.prog X.w (upd H x o) h' x o):Inv X pins σ (upd H x o) { s with heap:=h',toks:=t' }:=I.un (Un.write mu he k heo) (I.hok.write mu he k heo new)
theorem Inv.Y4 {Y5:List (Addr × Obj)} (I:Inv X pins σ H s) (h:∀ p∈Y5,s.heap.get? p.1=some p.2/\H p.1=none/\p.1≠X.env.locals/\p.1∉X.fs/\∀ v,p.2.data ≠ .cell v):Inv X Y5 σ H s :=
 ⟨I.ok,I.os,I.bare,I.base,I.loc,I.cell,I.free,I.qC,fun p hp=>(dg.mp hp).elim (fun z=>I.pin p (CV _ z)) (h p),I.hok,I.len⟩
theorem Qy (hN:N.Nodup) {j:Nat} (a:N[i]? = some x) (b:N[j]? = some x):i=j:=by
 obtain ⟨h1,e1⟩:=fQ.mp a
 obtain ⟨h2,e2⟩:=fQ.mp b
 exact (List.getElem_inj hN).mp (e1.trans e2.symm)
theorem JW {M:Model} {Q:Unit->Shared->Prop} (I:Inv X pins σ H s) (hN:X.N.Nodup) (hi:X.N[i]? = some x) (hx:Loc X.env.scope x) (r:RelV v u)
  (h:∀ s',Inv X pins (σ.set i (some v)) H s'->(∃ a,uf a s.heap s'.heap/\(a=X.env.locals\/X.env.cells.lookup x=some a))->Q () s') (hf:X.fn x=true\/X.env.scope.names.lookup x=some .local:=by first | exact .inl rfl | exact .inr rfl | assumption):wpAny M A (Ti X.env x u) Q E s:=by
 obtain ⟨m,hn,hl⟩:=id I.loc
 have hcls:(X.env.scope.kind == .class || (X.env.scope.kind == .module && X.env.locals != X.env.globals))=false:=by rw [I.ok.kind];rfl
 have hiσ:i<σ.length:=by rw [I.len];exact (fQ.mp hi).1
 have cne:=I.cne
 have tracked:∀ {a:Addr} {h':Heap},(∃ o,s.heap.get? a=some o/\H a=none)->uf a s.heap h'->HOk X.prog X.w H h':=fun {a h'} ha hs b ob e=>by
  obtain ⟨_,_,hfree⟩:=ha
  refine (I.hok b ob e).stay (fun c w' hc q=>(hs.2 c ?_).trans q) (fun _ q=>q) fun _ _ q=>q
  rintro rfl
  rcases hc with rfl | hc
  ·rw [hfree] at e;cases e
  ·rw [hfree] at hc;cases hc
 rcases hx with hk | hk
 ·refine wpAny_storeName_local hk hn (fun h' hn' hs=>?_) hcls
  obtain ⟨oL,_,_,hoL,_⟩:=id hn
  refine h _ ⟨I.ok,I.os,I.bare,⟨fun b o e n hb hx=>?_,fun b o e n hb hx=>?_,I.base.free,fun b o e hx=>?_,I.base.tups,I.base.yV,I.base.DX⟩,⟨_,hn',fun j y v' e1 e2 e3=>?_⟩,fun y c e=>?_,I.free,I.qC,fun p hp=>?_,tracked ⟨oL,hoL,I.free⟩ hs,by simpa using I.len⟩ ⟨_,hs,.inl rfl⟩
  ·exact (hs.2 b (cO (gF (bR e) I.ok.above))).trans (I.base.keep b o e n hb hx)
  ·obtain ⟨sl,e1⟩:=I.base.slot b o e n hb hx
   exact ⟨sl,(hs.2 b (cO (gF (bR e) I.ok.above))).trans e1⟩
  ·obtain ⟨o',e1⟩:=I.base.there b o e hx
   exact ⟨o',(hs.2 b (cO (gF (bR e) I.ok.above))).trans e1⟩
  ·by_cases hj:j=i
   ·subst hj
    rw [hi] at e1;cases e1
    rw [Mt hiσ] at e2
    cases e2
    exact ⟨u,r,.inl ⟨hk,by simp⟩⟩
   ·rw [Bg (aK hj)] at e2
    obtain ⟨u',r',q⟩:=hl j y v' e1 e2 e3
    refine ⟨u',r',?_⟩
    rcases q with ⟨k,e⟩ | ⟨k,c,e,z⟩
    ·refine .inl ⟨k,?_⟩
     have:y≠x:=fun e=>hj (Qy hN e1 (e ▸ hi))
     simp [this,e]
    ·exact .inr ⟨k,c,e,z.sameBut hs (cne y c e)⟩
  ·obtain ⟨w',z⟩:=I.cell y c e
   exact ⟨w',z.sameBut hs (cne y c e)⟩
  ·obtain ⟨e,n,ne,nf,d⟩:=I.pin p hp
   exact ⟨(hs.2 p.1 ne).trans e,n,ne,nf,d⟩
 ·have hfn:X.fn x=true:=by
   rcases hf with z | z
   ·exact z
   ·rw [z] at hk;cases hk
  obtain ⟨c,hc⟩:=I.ok.has x (.inl hk)
  obtain ⟨w',z⟩:=I.cell x c hc
  refine wpAny_storeName_cell I.ok.kind hk hc z (fun h' hc' hs=>?_)
  obtain ⟨oc,hoc,hocd⟩:=id z
  refine h { s with heap:=h' } ⟨I.ok,I.os,I.bare,⟨fun b o e n hb hx=>?_,fun b o e n hb hx=>?_,I.base.free,fun b o e hx=>?_,I.base.tups,I.base.yV,I.base.DX⟩,⟨m,hn.sameBut hs (aK (cne x c hc)),fun j y v' e1 e2 e3=>?_⟩,fun y c' e=>?_,I.free,I.qC,fun p hp=>?_,tracked ⟨oc,hoc,I.qC x c hc⟩ hs,by simpa using I.len⟩ ⟨c,hs,.inr hc⟩
  ·exact (hs.2 b (cO (gF (bR e) (I.ok.cab x c hfn hc)))).trans (I.base.keep b o e n hb hx)
  ·obtain ⟨sl,e1⟩:=I.base.slot b o e n hb hx
   exact ⟨sl,(hs.2 b (cO (gF (bR e) (I.ok.cab x c hfn hc)))).trans e1⟩
  ·obtain ⟨o',e1⟩:=I.base.there b o e hx
   exact ⟨o',(hs.2 b (cO (gF (bR e) (I.ok.cab x c hfn hc)))).trans e1⟩
  ·by_cases hj:j=i
   ·subst hj
    rw [hi] at e1;cases e1
    rw [Mt hiσ] at e2
    cases e2
    exact ⟨u,r,.inr ⟨.inl hk,c,hc,hc'⟩⟩
   ·rw [Bg (aK hj)] at e2
    obtain ⟨u',r',q⟩:=hl j y v' e1 e2 e3
    refine ⟨u',r',?_⟩
    rcases q with q | ⟨k,c',e,z'⟩
    ·exact .inl q
    ·refine .inr ⟨k,c',e,z'.sameBut hs ?_⟩
     rintro rfl
     exact hj (Qy hN e1 (I.ok.inj _ _ _ e hc ▸ hi))
  ·by_cases hcc:c'=c
   ·subst hcc;exact ⟨_,hc'⟩
   ·obtain ⟨w2,z2⟩:=I.cell y c' e
    exact ⟨w2,z2.sameBut hs hcc⟩
  ·obtain ⟨e,n,ne,nf,d⟩:=I.pin p hp
   refine ⟨(hs.2 p.1 ?_).trans e,n,ne,nf,d⟩
   intro q
   rw [q,hoc] at e
   have q':oc=p.2:=dB e
   exact d w' (by rw [<- q'];exact hocd)
theorem GP {M:Model} {Q:Unit->Shared->Prop} (I:Inv X pins σ H s) (hN:X.N.Nodup) (hi:X.N[i]? = some x) (hx:Loc X.env.scope x) (r:RelV v u)
  (h:∀ s',Inv X pins (σ.set i (some v)) H s'->Q () s') (hf:X.fn x=true\/X.env.scope.names.lookup x=some .local:=by first | exact .inl rfl | exact .inr rfl | assumption):wpAny M A (Ti X.env x u) Q E s :=
 JW I hN hi hx r (fun s' I' _=>h s' I') hf
end
noncomputable abbrev XK:=Value->Option Addr->Hp->Prop
noncomputable abbrev St:=List (Option V)
variable {σ:St}
noncomputable abbrev VK:=V->Hp->Prop
noncomputable abbrev TE:=St->Hp->VK->Prop
variable {te ta tl:TE}
noncomputable abbrev TT:=St->Hp->(Bool->Hp->Prop)->Prop
variable {tc:TT}
noncomputable abbrev TA:=St->Hp->(List V->Hp->Prop)->Prop
variable {t:TA}
structure Ends where
 nx:St->Hp->Prop
 rt:VK
 bk:St->Hp->Prop:=fun _ _=>False
 ct:St->Hp->Prop:=fun _ _=>False
variable {D:Ends}
noncomputable abbrev TS:=Ends->St->Hp->Prop
variable {tb:TS}
noncomputable def EP (X:Cx) (pins:List (Addr × Obj)) (σ:St) (Q:VK) (u:Value) (s':Shared):Prop:=∃ v H',Inv X pins σ H' s'/\RelV v u/\Q v H'
noncomputable def TP (X:Cx) (pins:List (Addr × Obj)) (σ:St) (Q:Bool->Hp->Prop) (b:Bool) (s':Shared):Prop:=∃ H',Inv X pins σ H' s'/\Q b H'
noncomputable def AP (X:Cx) (pins:List (Addr × Obj)) (σ:St) (Q:List V->Hp->Prop) (us:List Value) (s':Shared):Prop:=∃ vs H',Inv X pins σ H' s'/\Vals vs us/\Q vs H'
noncomputable def SP (X:Cx) (pins:List (Addr × Obj)) (D:Ends) (f:Flow) (s':Shared):Prop :=
 match f with
 | .next=>∃ σ' H',Inv X pins σ' H' s'/\D.nx σ' H'
 | .brk=>∃ σ' H',Inv X pins σ' H' s'/\D.bk σ' H'
 | .cont=>∃ σ' H',Inv X pins σ' H' s'/\D.ct σ' H'
 | .ret u=>∃ v σ' H',Inv X pins σ' H' s'/\RelV v u/\D.rt v H'
noncomputable def PE (X:Cx) (e:Expr) (t:TE):Prop :=
 ∀ (pins:List (Addr × Obj)) (s:Shared) (σ:St) (H:Hp) (Q:VK),Inv X pins σ H s->t σ H Q->wpAny (model X.prog X.w) X.A (eval e X.env) (EP X pins σ Q) X.xe s
noncomputable def PT (X:Cx) (e:Expr) (t:TT):Prop :=
 ∀ (pins:List (Addr × Obj)) (s:Shared) (σ:St) (H:Hp) (Q:Bool->Hp->Prop),Inv X pins σ H s->t σ H Q->wpAny (model X.prog X.w) X.A (Fz e X.env (eval e X.env)) (TP X pins σ Q) X.xe s
noncomputable def PW (X:Cx) (e:Expr) (t:TT):Prop :=
 ∀ (whole:Sem Value) (pins:List (Addr × Obj)) (s:Shared) (σ:St) (H:Hp) (Q:Bool->Hp->Prop),Inv X pins σ H s->t σ H Q->wpAny (model X.prog X.w) X.A (Fz e X.env whole) (TP X pins σ Q) X.xe s
theorem PW.pt {t:TT} (h:PW X e t):PT X e t:=h _
noncomputable def PA (X:Cx) (es:List Expr) (t:TA):Prop :=
 ∀ (pos:Pos) (pins:List (Addr × Obj)) (s:Shared) (σ:St) (H:Hp) (Q:List V->Hp->Prop),Inv X pins σ H s->t σ H Q->wpAny (model X.prog X.w) X.A (spliced (iI pos (dM es X.env))) (AP X pins σ Q) X.xe s
noncomputable def PS (X:Cx) (st:Stmt) (t:TS):Prop :=
 ∀ (pins:List (Addr × Obj)) (s:Shared) (σ:St) (H:Hp) (D:Ends),Inv X pins σ H s->t D σ H->wpAny (model X.prog X.w) X.A (exec st X.env) (SP X pins D) X.xe s
noncomputable def PSs (X:Cx) (st:List Stmt) (t:TS):Prop :=
 ∀ (pins:List (Addr × Obj)) (s:Shared) (σ:St) (H:Hp) (D:Ends),Inv X pins σ H s->t D σ H->wpAny (model X.prog X.w) X.A (execs st X.env) (SP X pins D) X.xe s
theorem thn {t:Sem α} {Q Q':α->Shared->Prop} {M:Model} (h:wpAny M A t Q E s) (hQ:∀ a s,Q a s->Q' a s):wpAny M A t Q' E s:=fO h hQ fun _ _ x=>x
section
@[reducible] noncomputable def tVar (i:Nat):TE:=fun σ H Q=>∃ v,σ[i]? = some (some v)/\Q v H
@[reducible] noncomputable def tC (v:V):TE:=fun _ H Q=>Q v H
theorem ajI {pos:Pos} (hN:X.N[i]? = some x) (hv:Vis X.env.scope x) (hd:(x == ("__debug__" : Str))=false:=by decide) (hcd:(x == ("__classdict__" : Str))=false:=by decide):PE X (.Name x pos) (tVar i):=by
 walk_at "k"
 obtain ⟨v,e,h⟩:=h
 obtain ⟨m,hn,hl⟩:=I.loc
 obtain ⟨u,r,l⟩:=hl i x v hN e hv
 have fin:EP X pins σ Q u s:=⟨v,H,I,r,h⟩
 rcases l with ⟨hk,hm⟩ | ⟨hk,c,hc,hcell⟩
 ·exact Tf (abk I.ok.kind hk hn hm fin) hd
 ·rcases hk with hk | hk
  ·exact Tf (abo I.ok.kind hk hc hcell fin) hd
  ·exact Tf (wpAny_loadName_free I.ok.kind hk hc hcell fin hcd) hd
theorem aA {i j pos}:PE X (.Constant (.int i) j pos) (tC (.int i)):=fun _ _ _ H _ I h=>wpAny_Constant_int ⟨.int i,H,I.tok _,⟨_,rfl⟩,h⟩
theorem yW {b j pos}:PE X (.Constant (.bool b) j pos) (tC (.bl b)):=fun _ _ _ H _ I h=>acZ ⟨.bl b,H,I,rfl,h⟩
theorem xX {j pos}:PE X (.Constant .none j pos) (tC .non):=fun _ _ _ H _ I h=>U4 ⟨.non,H,I,rfl,h⟩
theorem BZ {x j pos}:PE X (.Constant (.str x) j pos) (tC (.str x)):=fun _ _ _ H _ I h=>Calls.Constant_str ⟨.str x,H,I.tok _,⟨_,rfl⟩,h⟩
noncomputable def Gl (X:Cx) (x:Str):Prop:=X.env.kindOf x=some .globalImplicit
theorem yX {pos:Pos} (I:Inv X pins σ H s) (hg:Gl X x) (hm:X.mg x=some u) (h:Q u s)
  (hd:(x == ("__debug__" : Str))=false:=by decide):wpAny (model X.prog X.w) X.A (eval (.Name x pos) X.env) Q E s :=
 adA I.ok.kind hg (Calls.loadGlobal_global (by rw [I.ok.glob];exact I.mod.glob.keeps I.bk) hm h) hd
theorem nA {pos:Pos} (I:Inv X pins σ H s) (hg:Gl X x) (hm:X.mg x=none) (hv:Fv x=some u) (h:Q u s)
  (hn:x ≠ "__name__" := by decide) (hd:(x == ("__debug__" : Str))=false:=by decide):wpAny (model X.prog X.w) X.A (eval (.Name x pos) X.env) Q E s:=by
 obtain ⟨mb,h1,h2⟩:=I.mod.blt
 exact adA I.ok.kind hg (Calls.loadGlobal_builtin (by rw [I.ok.glob];exact I.mod.glob.keeps I.bk) hm (by rw [I.ok.blt];exact h1.keeps I.bk) ((h2 x hn).trans hv) h) hd
theorem Od {pos:Pos} (hg:Gl X x) (hm:X.mg x=some u) (r:RelV v u) (hd:(x == ("__debug__" : Str))=false:=by decide):PE X (.Name x pos) (tC v) :=
 fun _ _ _ H _ I h=>yX I hg hm ⟨v,H,I,r,h⟩ hd
variable {a b:Expr} {tb:TE} {pos:Pos}
@[reducible] noncomputable def tB (t:TE):TT:=fun σ H Q=>t σ H fun x H1=>∃ c,x = .bl c/\Q c H1
theorem Ca {t:TE} (h:PE X e t) (he:∀ whole,Fz e X.env whole=(do let v <- whole;standAt e.pos;wO [v] (truthy v)):=by intro _;rfl):PT X e (tB t):=by
 intro pins s σ H Q I hw
 refine isTrue_plain (thn (h pins s σ H _ I hw) fun v s1 ⟨x,H1,I1,r1,q1⟩=>?_) (he _)
 obtain ⟨d,rfl,q⟩:=q1
 cases r1
 exact Am ⟨H1,I1,q⟩
variable {tA tB':TT} {rest:List Expr}
@[reducible] noncomputable def tAnd (t u:TT):TT:=fun σ H Q=>t σ H fun c H1=>if c=true then u σ H1 Q else Q false H1
@[reducible] noncomputable def tOr (t u:TT):TT:=fun σ H Q=>t σ H fun c H1=>if c=true then Q true H1 else u σ H1 Q
@[reducible] noncomputable def tNot (t:TT):TT:=fun σ H Q=>t σ H fun c H1=>Q (!c) H1
theorem pw_and1 (ha:PT X a tA):PW X (.BoolOp .And [a] pos) tA:=by
 intro wh pins s σ H Q I h
 refine isTrue_and (thn (ha pins s σ H Q I h) fun c s1 e=>?_)
 cases c with
 | true=>exact isTrue_and_nil e
 | false=>exact e
theorem pw_or1 (ha:PT X a tA):PW X (.BoolOp .Or [a] pos) tA:=by
 intro wh pins s σ H Q I h
 refine isTrue_or (thn (ha pins s σ H Q I h) fun c s1 e=>?_)
 cases c with
 | false=>exact isTrue_or_nil e
 | true=>exact e
theorem pw_and (ha:PT X a tA) (hb:PW X (.BoolOp .And (b::rest) pos) tB'):PW X (.BoolOp .And (a::b::rest) pos) (tAnd tA tB'):=by
 intro wh pins s σ H Q I h
 refine isTrue_and (thn (ha pins s σ H _ I h) fun c s1 ⟨H1,I1,q1⟩=>?_)
 cases c with
 | true=>exact hb wh pins s1 σ H1 Q I1 q1
 | false=>exact ⟨H1,I1,q1⟩
theorem pw_or (ha:PT X a tA) (hb:PW X (.BoolOp .Or (b::rest) pos) tB'):PW X (.BoolOp .Or (a::b::rest) pos) (tOr tA tB'):=by
 intro wh pins s σ H Q I h
 refine isTrue_or (thn (ha pins s σ H _ I h) fun c s1 ⟨H1,I1,q1⟩=>?_)
 cases c with
 | true=>exact ⟨H1,I1,q1⟩
 | false=>exact hb wh pins s1 σ H1 Q I1 q1
theorem Cd (ha:PT X a tA):PT X (.UnaryOp .Not a pos) (tNot tA):=by
 walk_at "k"
 exact isTrue_not (ha pins s σ H (fun c H1=>Q (!c) H1) I h)
@[reducible] noncomputable def tAndV (ta tb:TE):TE:=fun σ H Q=>ta σ H fun x H1=>∃ c,x = .bl c/\if c=true then tb σ H1 Q else Q (.bl false) H1
@[reducible] noncomputable def tOrV (ta tb:TE):TE:=fun σ H Q=>ta σ H fun x H1=>∃ c,x = .bl c/\if c=true then Q (.bl true) H1 else tb σ H1 Q
theorem Oe {op} {t:TE} (h:PE X a t):PE X (.BoolOp op [a] pos) t:=fun pins s σ H Q I hw=>BoolOp_one (h pins s σ H Q I hw)
theorem Xi (ha:PE X a ta) (hb:PE X (.BoolOp .And (b::rest) pos) tb):PE X (.BoolOp .And (a::b::rest) pos) (tAndV ta tb):=by
 walk_at "k"
 refine BoolOp_and (thn (ha pins s σ H _ I h) fun v s1 ⟨x,H1,I1,r1,q1⟩=>?_)
 obtain ⟨c,rfl,q1⟩:=q1
 cases r1
 refine Am ?_
 cases c with
 | true=>exact hb pins s1 σ H1 Q I1 q1
 | false=>exact ⟨.bl false,H1,I1,rfl,q1⟩
theorem pe_or (ha:PE X a ta) (hb:PE X (.BoolOp .Or (b::rest) pos) tb):PE X (.BoolOp .Or (a::b::rest) pos) (tOrV ta tb):=by
 walk_at "k"
 refine BoolOp_or (thn (ha pins s σ H _ I h) fun v s1 ⟨x,H1,I1,r1,q1⟩=>?_)
 obtain ⟨c,rfl,q1⟩:=q1
 cases r1
 refine Am ?_
 cases c with
 | false=>exact hb pins s1 σ H1 Q I1 q1
 | true=>exact ⟨.bl true,H1,I1,rfl,q1⟩
noncomputable def tIf (t:TT) (ta tb:TE):TE:=fun σ H Q=>t σ H fun c H1=>if c=true then ta σ H1 Q else tb σ H1 Q
theorem Qz (hc:PT X c tA) (ha:PE X a ta) (hb:PE X b tb):PE X (.IfExp c a b pos) (tIf tA ta tb):=by
 walk_at "k"
 refine wpAny_IfExp (thn (hc pins s σ H _ I h) fun d s1 ⟨H1,I1,q1⟩=>?_)
 cases d with
 | true=>exact ha pins s1 σ H1 Q I1 q1
 | false=>exact hb pins s1 σ H1 Q I1 q1
end
noncomputable def SqL (K:bh) (H:Hp) (a:Addr) (xs:List V):Prop :=
 Rd H a (.lst xs) \/
  ∃ (o:Obj) (its:Array Value) (n:Nat),K.lookup a=some o/\o.cls = .type "list" /\ o.dict=none/\o.data = .seq its n/\its.size<=sizeLine/\Vals xs its.toList
noncomputable def SqT (K:bh) (H:Hp) (a:Addr) (xs:List V):Prop :=
 Rd H a (.tup xs) \/
  ∃ (o:Obj) (its:Array Value) (n:Nat),K.lookup a=some o/\o.cls = .type "tuple" /\ o.data = .seq its n/\its.size<=sizeLine/\Vals xs its.toList
noncomputable def absV:Value->Option V
 | .none=>some .non
 | .bool b=>some (.bl b)
 | .int i _=>some (.int i)
 | .str x _=>some (.str x)
 | .bytes b _=>some (.byt b)
 | .float b _=>some (.flt b)
 | .ref a=>some (.ref a)
 | .type n=>some (.ty n)
 | _=>none
theorem RelV.abs {x:V} (r:RelV x u):absV u=some x:=by
 cases x with
 | non=>cases r;rfl
 | bl _=>cases r;rfl
 | int _=>obtain ⟨t,rfl⟩:=r;rfl
 | str _=>obtain ⟨t,rfl⟩:=r;rfl
 | byt _=>obtain ⟨t,rfl⟩:=r;rfl
 | flt _=>obtain ⟨t,rfl⟩:=r;rfl
 | ref _=>cases r;rfl
 | ty _=>cases r;rfl
theorem RelV.inj {x:V} (r:RelV x u) (q:RelV y u):x=y:=dB (r.abs.symm.trans q.abs)
theorem Vals.inj:∀ {xs ys:List V} {us:List Value},Vals xs us->Vals ys us->xs=ys
 | _,_,_,.nil,.nil=>rfl
 | _,_,_,.cons r t,.cons r' t'=>by rw [r.inj r',Vals.inj t t']
section
variable {a:Addr} {ys:List V}
theorem Inv.list (I:Inv X pins σ H s) (h:SqL X.K H a xs):∃ its:List Value,Vals xs its/\PlainL s.heap a its.toArray/\xs.length<=sizeLine:=by
 rcases h with h | ⟨o,its,n,hk,hc,hd,hs,hz,r⟩
 ·obtain ⟨z,its,n,r,e⟩:=h.ok I.hok
  exact ⟨its,r,⟨_,n,e,rfl,rfl,rfl⟩,z⟩
 ·refine ⟨its.toList,r,⟨o,n,I.kIn a o hk,hc,hd,by simpa using hs⟩,?_⟩
  have e:=r.length
  simp only [fU] at e
  lia
theorem Inv.tuple (I:Inv X pins σ H s) (h:SqT X.K H a xs):∃ its:List Value,Vals xs its/\IsTup s.heap a its.toArray/\xs.length<=sizeLine:=by
 rcases h with h | ⟨o,its,n,hk,hc,hs,hz,r⟩
 ·obtain ⟨z,its,r,p⟩:=h.ok I.hok
  exact ⟨its,r,p,z⟩
 ·refine ⟨its.toList,r,⟨o,I.kIn a o hk,hc,n,by simpa using hs⟩,?_⟩
  have e:=r.length
  simp only [fU] at e
  lia
theorem Inv.QB (I:Inv X pins σ H s) (h:SqL X.K H a xs) (h':SqL X.K H a ys):xs=ys:=by
 obtain ⟨its,r,⟨o,n,e,_,_,d⟩,_⟩:=I.list h
 obtain ⟨its',r',⟨o',n',e',_,_,d'⟩,_⟩:=I.list h'
 rw [e] at e';cases e'
 rw [d] at d'
 injection d' with d1 _
 have:its=its':=by simpa using congrArg acQ d1
 subst this
 exact r.inj r'
theorem Inv.aag (I:Inv X pins σ H s) (h:SqT X.K H a xs) (h':SqT X.K H a ys):xs=ys:=by
 obtain ⟨its,r,⟨o,e,_,n,d⟩,_⟩:=I.tuple h
 obtain ⟨its',r',⟨o',e',_,n',d'⟩,_⟩:=I.tuple h'
 rw [e] at e';cases e'
 rw [d] at d'
 injection d' with d1 _
 have:its=its':=by simpa using congrArg acQ d1
 subst this
 exact r.inj r'
end
noncomputable abbrev Cx.wish (X:Cx) (E:Value->Shared->Prop):Cx:={ X with xe:=E }
noncomputable abbrev Cx.nox (X:Cx):Cx:=X.wish fun _ _=>False
theorem Cx.Ok.wish (ok:X.Ok) (E:Value->Shared->Prop):(X.wish E).Ok :=
 ⟨ok.mod,ok.kind,ok.glob,ok.blt,ok.above,ok.inj,ok.has,ok.cab,ok.hd,ok.frames,ok.stk,ok.exf,ok.bs,ok.bsz,ok.aaf,ok.exfs,ok.BX,ok.frf⟩
theorem Cx.Ok.nF (ok:(X.wish E).Ok):X.Ok :=
 ⟨ok.mod,ok.kind,ok.glob,ok.blt,ok.above,ok.inj,ok.has,ok.cab,ok.hd,ok.frames,ok.stk,ok.exf,ok.bs,ok.bsz,ok.aaf,ok.exfs,ok.BX,ok.frf⟩
theorem Inv.wish (I:Inv X pins σ H s) (E:Value->Shared->Prop):Inv (X.wish E) pins σ H s:=⟨I.ok.wish E,I.os,I.bare,I.base,I.loc,I.cell,I.free,I.qC,I.pin,I.hok,I.len⟩
theorem Inv.nF (I:Inv (X.wish E) pins σ H s):Inv X pins σ H s:=⟨I.ok.nF,I.os,I.bare,I.base,I.loc,I.cell,I.free,I.qC,I.pin,I.hok,I.len⟩
theorem SP.nF {f:Flow} (h:SP (X.wish E) pins D f s'):SP X pins D f s':=by
 cases f with
 | next=>obtain ⟨σ',H',I,q⟩:=h;exact ⟨σ',H',I.nF,q⟩
 | brk=>obtain ⟨σ',H',I,q⟩:=h;exact ⟨σ',H',I.nF,q⟩
 | cont=>obtain ⟨σ',H',I,q⟩:=h;exact ⟨σ',H',I.nF,q⟩
 | ret u=>obtain ⟨v,σ',H',I,r,q⟩:=h;exact ⟨v,σ',H',I.nF,r,q⟩
theorem PE.nox {t:TE} (h:PE X.nox e t):PE X e t:=fun pins s σ H Q I hw =>
 fO (h pins s σ H Q (I.wish _) hw) (fun _ _ ⟨v,H',I',r,q⟩=>⟨v,H',I'.nF,r,q⟩) fun _ _ z=>iZ z
theorem PT.nox {t:TT} (h:PT X.nox e t):PT X e t:=fun pins s σ H Q I hw =>
 fO (h pins s σ H Q (I.wish _) hw) (fun _ _ ⟨H',I',q⟩=>⟨H',I'.nF,q⟩) fun _ _ z=>iZ z
theorem PSs.nox {st:List Stmt} {t:TS} (h:PSs X.nox st t):PSs X st t:=fun pins s σ H D I hw =>
 fO (h pins s σ H D (I.wish _) hw) (fun _ _ q=>q.nF) fun _ _ z=>iZ z
section
variable {st:Stmt} {rest:List Stmt} {t u:TS} {pos:Pos}
@[reducible] noncomputable def tNext:TS:=fun D σ H=>D.nx σ H
@[reducible] noncomputable def tSeq (t u:TS):TS:=fun D σ H=>t { D with nx:=u D } σ H
theorem cQ:PSs X [] tNext:=fun _ _ σ H _ I h=>Lf ⟨σ,H,I,h⟩
theorem aq (h1:PS X st t) (h2:PSs X rest u):PSs X (st::rest) (tSeq t u):=by
 intro pins s σ H D I h
 refine abw (thn (h1 pins s σ H { D with nx:=u D } I h) fun f s1 q=>?_)
 cases f with
 | next =>
  obtain ⟨σ',H',I',q⟩:=q
  exact h2 pins s1 σ' H' D I' q
 | ret v=>exact q
 | brk=>exact q
 | cont=>exact q
theorem aF (h1:PS X st t):PSs X [st] t:=by
 intro pins s σ H D I h
 refine abw (thn (h1 pins s σ H D I h) fun f s1 q=>?_)
 cases f with
 | next=>exact Lf q
 | ret v=>exact q
 | brk=>exact q
 | cont=>exact q
theorem Inv.quiet (I:Inv X pins σ H s):interactive X.env=false:=by simp [interactive,I.ok.kind]
@[reducible] noncomputable def tDrop (te:TE):TS:=fun D σ H=>te σ H fun _ H1=>D.nx σ H1
theorem cR (he:PE X e te) (hs:LQ e none pos.line X.env=pure false:=by rfl):PS X (.Expr e pos) (tDrop te):=by
 intro pins s σ H D I h
 exact wpAny_Expr_any (thn (he pins s σ H _ I h) fun v s1 ⟨x,H1,I1,r1,q1⟩=>⟨σ,H1,I1,q1⟩) I.quiet hs
@[reducible] noncomputable def tRet (te:TE):TS:=fun D σ H=>te σ H D.rt
theorem cC (he:PE X e te):PS X (.Return (some e) pos) (tRet te):=by
 intro pins s σ H D I h
 exact wpAny_Return_some (thn (he pins s σ H _ I h) fun v s1 ⟨x,H1,I1,r1,q1⟩=>⟨x,σ,H1,I1,r1,q1⟩)
@[reducible] noncomputable def tIfS (c:TT) (t u:TS):TS:=fun D σ H=>c σ H fun b H1=>if b=true then t D σ H1 else u D σ H1
theorem d9 {a b:List Stmt} (hc:PT X c tc) (ha:PSs X a t) (hb:PSs X b u):PS X (.If c a b pos) (tIfS tc t u):=by
 intro pins s σ H D I h
 refine wpAny_If (thn (hc pins s σ H _ I h) fun d s1 ⟨H1,I1,q1⟩=>?_)
 cases d with
 | true=>exact ha pins s1 σ H1 D I1 q1
 | false=>exact hb pins s1 σ H1 D I1 q1
end
noncomputable abbrev TG:=V->St->Hp->(St->Hp->Prop)->Prop
noncomputable abbrev TGs:=List V->St->Hp->(St->Hp->Prop)->Prop
noncomputable def PG (X:Cx) (target:Expr) (t:TG):Prop :=
 ∀ (pins:List (Addr × Obj)) (s:Shared) (σ:St) (H:Hp) (v:V) (u:Value) (Q:St->Hp->Prop),Inv X pins σ H s->RelV v u->t v σ H Q ->
  wpAny (model X.prog X.w) X.A (pP target X.env u) (fun _ s'=>∃ σ' H',Inv X pins σ' H' s'/\Q σ' H') X.xe s
noncomputable def PGs (X:Cx) (ts:List Expr) (t:TGs):Prop :=
 ∀ (pins:List (Addr × Obj)) (s:Shared) (σ:St) (H:Hp) (vs:List V) (us:List Value) (Q:St->Hp->Prop),Inv X pins σ H s->Vals vs us->t vs σ H Q ->
  wpAny (model X.prog X.w) X.A (assignInOrder ((Ax ts X.env).map (·.2)) us) (fun _ s'=>∃ σ' H',Inv X pins σ' H' s'/\Q σ' H') X.xe s
noncomputable abbrev aeb:=V->V->V->Hp->(Hp->Prop)->Prop
noncomputable def PSet (X:Cx) (t:aeb):Prop :=
 ∀ (pins:List (Addr × Obj)) (s:Shared) (σ:St) (H:Hp) (o i v:V) (ov iv u:Value) (Q:Hp->Prop),Inv X pins σ H s->RelV o ov->RelV i iv->RelV v u->t o i v H Q ->
  wpAny (model X.prog X.w) X.A (Ml ov iv u) (fun _ s'=>∃ H',Inv X pins σ H' s'/\Q H') X.xe s
noncomputable abbrev TIp:=V->V->Hp->VK->Prop
noncomputable def PIp (X:Cx) (op:Ma) (t:TIp):Prop :=
 ∀ (pins:List (Addr × Obj)) (s:Shared) (σ:St) (H:Hp) (x y:V) (v u:Value) (Q:VK),Inv X pins σ H s->RelV x v->RelV y u->t x y H Q ->
  wpAny (model X.prog X.w) X.A (inplaceOp op v u) (EP X pins σ Q) X.xe s
section
variable {pos:Pos}
@[reducible] noncomputable def uG (i:Nat):TG:=fun v σ H Q=>Q (σ.set i (some v)) H
theorem gM (hN:X.N.Nodup) (hi:X.N[i]? = some x) (hx:Loc X.env.scope x) (hf:X.fn x=true\/X.env.scope.names.lookup x=some .local:=by first | exact .inl rfl | exact .inr rfl | assumption):PG X (.Name x pos) (uG i):=by
 intro pins s σ H v u Q I r h
 exact abq (GP I hN hi hx r (fun s' I'=>⟨_,H,I',h⟩) hf)
noncomputable def gNil:TGs:=fun vs σ H Q=>vs=[]/\Q σ H
noncomputable def GQ (t:TG) (u:TGs):TGs:=fun vs σ H Q=>∃ v r,vs=v::r/\t v σ H fun σ' H'=>u r σ' H' Q
theorem Og:PGs X [] gNil:=by
 intro pins s σ H vs us Q I r h
 obtain ⟨e,h⟩:=h
 subst e
 cases r
 exact assignInOrder_nil ⟨σ,H,I,h⟩
theorem qD {t:TG} {u:TGs} (h1:PG X e t) (h2:PGs X es u)
  (hs:(Ax (e::es) X.env).map (·.2)=pP e X.env::(Ax es X.env).map (·.2):=by rfl):PGs X (e::es) (GQ t u):=by
 intro pins s σ H vs us Q I r h
 obtain ⟨v,vr,e1,h⟩:=h
 subst e1
 cases r with
 | cons r rr =>
  rw [hs]
  refine assignInOrder_cons (thn (h1 pins s σ H _ _ _ I r h) fun _ s1 ⟨σ1,H1,I1,q1⟩=>?_)
  exact h2 pins s1 σ1 H1 _ _ Q I1 rr q1
noncomputable def gTup (K:bh) (n:Nat) (t:TGs):TG:=fun v σ H Q=>∃ a xs,v = .ref a/\SqT K H a xs/\xs.length=n/\t xs σ H Q
theorem Xj {t:TGs} (hc:X.calm=true) (h:PGs X es t)
  (hn:(Ax es X.env).length=n:=by rfl) (hst:(Ax es X.env).findIdx? (·.1)=none:=by rfl):PG X (.Tuple es k pos) (gTup X.K n t):=by
 intro pins s σ H v u Q I r hw
 obtain ⟨a,xs,e1,hq,hl,hw⟩:=hw
 subst e1
 cases r
 obtain ⟨its,rv,ht,hz⟩:=I.tuple hq
 refine assign_Tuple_tuple (I.ok.hd hc) ht (by simp [hn,<- hl,rv.length]) hst fun h' hx=>?_
 have I1:Inv X pins σ H { s with heap:=h' }:=I.kept (t':=s.toks) fun b o e=>hx b o (cO (bR e)) e
 exact h pins _ σ H xs _ Q I1 (by simpa using rv) hw
@[reducible] noncomputable def gSub (to ti:TE) (t:aeb):TG:=fun v σ H Q=>to σ H fun o H1=>ti σ H1 fun i H2=>t o i v H2 fun H3=>Q σ H3
theorem rC {o i:Expr} {to ti:TE} {t:aeb} (ho:PE X o to) (hi:PE X i ti) (hs:PSet X t)
  (ha:∀ v,pP (.Subscript o i pos) X.env v=(do
   let ov <- wO [v] (eval o X.env)
   let iv <- wO [v,ov] (eval i X.env)
   standAt pos
   wO [v,ov,iv] (Ml ov iv v)
   release [v,ov,iv] []):=by intro _;rfl):PG X (.Subscript o i pos) (gSub to ti t):=by
 intro pins s σ H v u Q I r h
 rw [ha]
 refine aG (jR (thn (ho pins s σ H _ I h) fun ov s1 ⟨x,H1,I1,r1,q1⟩=>?_))
 refine aG (jR (thn (hi pins s1 σ H1 _ I1 q1) fun iv s2 ⟨y,H2,I2,r2,q2⟩=>?_))
 refine aG (SQ (aG (jR (thn (hs pins s2 σ H2 x y v ov iv u _ I2 r1 r2 r q2) fun _ s3 ⟨H3,I3,q3⟩=>?_))))
 exact wpAny_release ⟨σ,H3,I3,q3⟩
@[reducible] noncomputable def tAsg (te:TE) (g:TG):TS:=fun D σ H=>te σ H fun x H1=>g x σ H1 D.nx
theorem rD {g:TG} (he:PE X e te) (hg:PG X tg g) (hs:swapsWithSole [tg] e pos.line X.env=pure false:=by rfl) (hw:swappedStores [tg] e X.env=pure none:=by rfl)
  (h1:(Ax [tg] X.env).map (·.2)=[pP tg X.env]:=by rfl):PS X (.Assign [tg] e pos) (tAsg te g):=by
 intro pins s σ H D I h
 refine wpAny_Assign_stores (thn (he pins s σ H _ I h) fun v s1 ⟨x,H1,I1,r1,q1⟩=>?_) hs hw
 rw [h1]
 exact thn (hg pins s1 σ H1 x v _ I1 r1 q1) fun _ s2 q=>q
theorem aV (hN:X.N.Nodup) (hi:X.N[i]? = some x) (hx:Loc X.env.scope x) (he:PE X e te) (hs:LQ e (some (.Name x pos')) pos.line X.env=pure false:=by rfl) (hf:X.fn x=true\/X.env.scope.names.lookup x=some .local:=by first | exact .inl rfl | exact .inr rfl | assumption) :
  PS X (.Assign [.Name x pos'] e pos) (tAsg te (uG i)):=by
 intro pins s σ H D I h
 refine wpAny_Assign_Name (thn (he pins s σ H _ I h) fun v s1 ⟨y,H1,I1,r1,q1⟩=>?_) hs
 exact GP I1 hN hi hx r1 (fun s2 I2=>⟨_,H1,I2,q1⟩) hf
noncomputable def tAug (i:Nat) (te:TE) (ti:TIp):TS:=fun D σ H=>∃ x,σ[i]? = some (some x)/\te σ H fun y H1=>ti x y H1 fun z H2=>D.nx (σ.set i (some z)) H2
theorem Xk {op:Ma} {ti:TIp} (hN:X.N.Nodup) (hi:X.N[i]? = some x) (hx:Loc X.env.scope x) (he:PE X e te) (ho:PIp X op ti) (hf:X.fn x=true\/X.env.scope.names.lookup x=some .local:=by first | exact .inl rfl | exact .inr rfl | assumption) :
  PS X (.AugAssign (.Name x pos') op e pos) (tAug i te ti):=by
 intro pins s σ H D I h
 obtain ⟨v,e1,h⟩:=h
 obtain ⟨m,hn,hl⟩:=I.loc
 have vis:Vis X.env.scope x:=by rcases hx with k | k;exact .inl k;exact .inr (.inl k)
 obtain ⟨u,r,l⟩:=hl i x v hi e1 vis
 refine wpAny_AugAssign_Name ?_
 have go:wpAny (model X.prog X.w) X.A (eval e X.env) (fun w s₂=>wpAny (model X.prog X.w) X.A (inplaceOp op u w) (fun r s₃=>wpAny (model X.prog X.w) X.A (Ti X.env x r) (fun _=>SP X pins D .next) X.xe s₃) X.xe s₂) X.xe s:=by
  refine thn (he pins s σ H _ I h) fun w s1 ⟨y,H1,I1,r1,q1⟩=>?_
  refine thn (ho pins s1 σ H1 v y u w _ I1 r r1 q1) fun z s2 ⟨zv,H2,I2,r2,q2⟩=>?_
  exact GP I2 hN hi hx r2 (fun s3 I3=>⟨_,H2,I3,q2⟩) hf
 rcases l with ⟨hk,hm⟩ | ⟨hk,c,hc,hcell⟩
 ·exact abk I.ok.kind hk hn hm go
 ·rcases hk with hk | hk
  ·exact abo I.ok.kind hk hc hcell go
  ·rcases hx with k | k
   ·have:X.env.scope.names.lookup x=some .free:=hk
    rw [k] at this;cases this
   ·have:X.env.scope.names.lookup x=some .free:=hk
    rw [k] at this;cases this
noncomputable def tAugS (to ti te:TE) (tget:V->V->Hp->VK->Prop) (tip:TIp) (tset:aeb):TS:=fun D σ H=>to σ H fun o H1=>ti σ H1 fun i H2=>tget o i H2 fun x H3=>te σ H3 fun y H4=>tip x y H4 fun z H5=>tset o i z H5 fun H6=>D.nx σ H6
noncomputable def PGet (X:Cx) (t:V->V->Hp->VK->Prop):Prop :=
 ∀ (pins:List (Addr × Obj)) (s:Shared) (σ:St) (H:Hp) (o i:V) (ov iv:Value) (Q:VK),Inv X pins σ H s->RelV o ov->RelV i iv->t o i H Q ->
  wpAny (model X.prog X.w) X.A (Fy ov iv) (EP X pins σ Q) X.xe s
theorem Y6 {o i:Expr} {to ti:TE} {tget:V->V->Hp->VK->Prop} {tip:TIp} {tset:aeb} {op:Ma} (ho:PE X o to) (hi:PE X i ti) (hg:PGet X tget) (he:PE X e te) (hp:PIp X op tip) (hs:PSet X tset)
  (ha:∀ ov iv new,augStore i ov iv new=(do wO [new,ov,iv] (Ml ov iv new);release [new,ov,iv] [];pure .next):=by intros;rfl):PS X (.AugAssign (.Subscript o i tpos) op e pos) (tAugS to ti te tget tip tset):=by
 intro pins s σ H D I h
 refine wpAny_AugAssign_SubscriptAny (thn (ho pins s σ H _ I h) fun ov s1 ⟨x1,H1,I1,r1,q1⟩=>?_) ha
 refine thn (hi pins s1 σ H1 _ I1 q1) fun iv s2 ⟨x2,H2,I2,r2,q2⟩=>?_
 refine thn (hg pins s2 σ H2 x1 x2 ov iv _ I2 r1 r2 q2) fun old s3 ⟨x3,H3,I3,r3,q3⟩=>?_
 refine thn (he pins s3 σ H3 _ I3 q3) fun v s4 ⟨x4,H4,I4,r4,q4⟩=>?_
 refine thn (hp pins s4 σ H4 x3 x4 old v _ I4 r3 r4 q4) fun new s5 ⟨x5,H5,I5,r5,q5⟩=>?_
 exact thn (hs pins s5 σ H5 x1 x2 x5 ov iv new _ I5 r1 r2 r5 q5) fun _ s6 ⟨H6,I6,q6⟩=>⟨σ,H6,I6,q6⟩
noncomputable def ipI (f:Int->Int->Int):TIp:=fun x y H Q=>∃ i j,x = .int i/\y = .int j/\Q (.int (f i j)) H
theorem GR:PIp X .Add (ipI fun i j=>i+j):=by
 intro pins s σ H x y v u Q I r1 r2 h
 obtain ⟨i,j,e1,e2,q⟩:=h
 subst e1;subst e2
 obtain ⟨t,rfl⟩:=r1
 obtain ⟨t',rfl⟩:=r2
 exact iadd_int ⟨.int _,H,I.tok _,⟨_,rfl⟩,q⟩
noncomputable def Xl (c:TT) (tb:TS):TS:=fun D σ H=>∃ W:Nat->St->Hp->Prop,(∃ m,W m σ H)/\∀ m σ H,W m σ H ->
 c σ H fun b H1=>if b=true then ∃ N:St->Hp->Prop,(∀ σ' H',N σ' H'->∃ m',m'<m/\W m' σ' H')/\tb { D with nx:=N,ct:=N,bk:=D.nx } σ H1 else D.nx σ H1
theorem yZ (hp:Tj (model X.prog X.w) X.A X.env X.xe) (hc:PT X c tc) (hb:PSs X body tb):PS X (.While c body [] pos) (Xl tc tb):=by
 intro pins s σ H D I h
 obtain ⟨W,⟨m0,w0⟩,turn⟩:=h
 refine wpAny_While (codeAny_whileLoop (fun n s'=>∃ σ' H',Inv X pins σ' H' s'/\W n σ' H') ?_ m0 ⟨σ,H,I,w0⟩)
 rintro n s1 ⟨σ1,H1,I1,w1⟩
 refine wJ hp (thn (hc pins s1 σ1 H1 _ I1 (turn n σ1 H1 w1)) fun b s2 ⟨H2,I2,q2⟩=>?_)
 cases b with
 | true =>
  obtain ⟨N,hN,q2⟩:=q2
  rw [if_pos rfl]
  refine wJ hp (thn (hb pins s2 σ1 H2 _ I2 q2) fun f s3 q3=>?_)
  cases f with
  | next =>
   obtain ⟨σ3,H3,I3,n3⟩:=q3
   obtain ⟨m',hm,w3⟩:=hN σ3 H3 n3
   exact ⟨m',hm,σ3,H3,I3,w3⟩
  | cont =>
   obtain ⟨σ3,H3,I3,n3⟩:=q3
   obtain ⟨m',hm,w3⟩:=hN σ3 H3 n3
   exact ⟨m',hm,σ3,H3,I3,w3⟩
  | brk=>exact q3
  | ret v=>exact q3
 | false =>
  rw [if_neg je]
  exact Lf ⟨σ1,H2,I2,q2⟩
end
structure It where
 go:Nat->Hp->Prop
 yld:Nat->Hp->V->Hp->Prop
 stop:Nat->Hp->Prop
noncomputable def vQ (X:Cx) (pins:List (Addr × Obj)) (H:Hp) (b:Addr):Prop :=
 H b=none/\b≠X.env.locals/\b∉X.fs/\(b∈X.ex\/X.s₀.heap.objs.size<=b)/\(∀ x c,X.env.cells.lookup x=some c->c≠b)/\∀ p∈X.pn++pins,p.1≠b
theorem Inv.aah {b:Addr} (I:Inv X pins σ H s) (hb:s.heap.objs.size<=b) (hn:H' b=none):vQ X pins H' b:=by
 refine ⟨hn,qW (gF I.lt hb),I.nofs hb,.inr (iC I.sz hb),fun x c e z=>?_,fun p hp z=>?_⟩
 ·obtain ⟨v,q⟩:=I.cell x c e
  exact absurd (gF q.lt (by rw [z];exact hb)) (oU _)
 ·exact absurd (gF (bR (I.pin p hp).1) (by rw [z];exact hb)) (oU _)
structure Turn (P:aN) (w:World) (K:bh) (tg:Expr) (J:It) (fp:List Addr) (it:Addr) (tn:Nat->Heap->Prop):Prop where
 mem:it∈fp
 obj:∀ i h,tn i h->∀ b∈fp,∃ o,h.get? b=some o/\∀ v,o.data ≠ .cell v
 keep:∀ i h h',tn i h->(∀ b∈fp,∀ o,h.get? b=some o->h'.get? b=some o)->tn i h'
 item:∀ (X:Cx),X.prog=P->X.w=w->X.K=K->X.calm=true->∀ (i:Nat) (pins:List (Addr × Obj)) (s:Shared) (σ:St) (H:Hp) (E:Value->Shared->Prop),Inv X pins σ H s->(∀ b∈fp,vQ X pins H b)->tn i s.heap->J.go i H ->
  wpAny (model P w) X.A (jZ (.ref it)) (fun r s1=>∃ u,r=some u /\
   wpAny (model P w) X.A (Fp tg (.ref it) u) (fun _ s2=>∃ x H',Inv X pins σ H' s2/\RelV x u/\J.yld i H x H'/\tn (i+1) s2.heap/\∀ b∈fp,H' b=none) E s1) E s
 done:∀ (X:Cx),X.prog=P->X.w=w->X.K=K->X.calm=true->∀ (i:Nat) (pins:List (Addr × Obj)) (s:Shared) (σ:St) (H:Hp) (E:Value->Shared->Prop),Inv X pins σ H s->(∀ b∈fp,vQ X pins H b)->tn i s.heap->J.stop i H ->
  wpAny (model P w) X.A (jZ (.ref it)) (fun r s1=>r=none/\Inv X pins σ H s1) E s
 self:∀ (A:bC) (i:Nat) (s:Shared) (Q:Value->Shared->Prop) (E:Value->Shared->Prop),tn i s.heap->Q (.ref it) s->wpAny (model P w) A (wV (.ref it)) Q E s
noncomputable abbrev TI:=St->Hp->(It->Hp->Prop)->Prop
noncomputable def PIE (X:Cx) (pins:List (Addr × Obj)) (σ:St) (tg:Expr) (R:It->Hp->Prop) (itv:Value) (s2:Shared):Prop :=
 ∃ (it:Addr) (fp:List Addr) (tn:Nat->Heap->Prop) (J:It) (H':Hp),itv = .ref it/\Inv X pins σ H' s2/\Turn X.prog X.w X.K tg J fp it tn/\tn 0 s2.heap/\(∀ b∈fp,vQ X pins H' b)/\R J H'
noncomputable def PI (X:Cx) (tg iter:Expr) (wi:TI):Prop :=
 ∀ (pins:List (Addr × Obj)) (s:Shared) (σ:St) (H:Hp) (R:It->Hp->Prop),Inv X pins σ H s->wi σ H R ->
  wpAny (model X.prog X.w) X.A (eval iter X.env) (fun v s1=>wpAny (model X.prog X.w) X.A (wV v) (PIE X pins σ tg R) X.xe s1) X.xe s
theorem Y7 {M:Model} {o:Obj} {n:String} {vs:Array Value} {Q:Unit->Shared->Prop} (ho:s.heap.get? it=some o) (hc:o.cls = .type n) (hd:o.data = .fields vs)
  (hn:["enumerate","zip","dict_itemiterator","dict_reverseitemiterator","odict_iterator","itertools.zip_longest","itertools.pairwise"].contains n=false) (hQ:Q () s):wpAny M A (Fp tg (.ref it) u) Q E s:=by
 unfold Fp
 cases tg <;> first
  | exact bH hQ
  | (cases u <;> first
    | exact bH hQ
    | (refine aG (wpAny_load ho ?_)
       rw [hc,hd]
       show wpAny M A (if (["enumerate","zip","dict_itemiterator","dict_reverseitemiterator","odict_iterator","itertools.zip_longest","itertools.pairwise"].contains n && vs[0]? == some (mX _))=true then _ else _) Q E s
       rw [if_neg (by intro h;rw [hn,Bool.false_and] at h;cases h)]
       exact bH hQ))
noncomputable def Itl (K:bh) (a:Addr):It :=
 ⟨fun i H=>∃ xs x,SqL K H a xs/\xs[i]? = some x,fun i H x H'=>H'=H/\∀ xs,SqL K H a xs->xs[i]? = some x,fun i H=>∃ xs,SqL K H a xs/\xs.length<=i⟩
noncomputable def Itt (K:bh) (a:Addr):It :=
 ⟨fun i H=>∃ xs x,SqT K H a xs/\xs[i]? = some x,fun i H x H'=>H'=H/\∀ xs,SqT K H a xs->xs[i]? = some x,fun i H=>∃ xs,SqT K H a xs/\xs.length<=i⟩
noncomputable def Itr (lo:Int) (n:Nat):It:=⟨fun i _=>i<n,fun i H x H'=>H'=H/\x = .int (lo+i),fun i _=>n<=i⟩
theorem aai {P:aN} {K:bh} (a it:Addr):Turn P w K tg (Itl K a) [it] it (fun i h=>h.IsListIter it a i) where
 mem:=by simp
 obj:=fun i h st b hb=>by
  have e:b=it:=by simpa using hb
  subst e
  obtain ⟨o,e,c,d⟩:=st
  exact ⟨o,e,fun v z=>by rw [d] at z;cases z⟩
 keep:=fun i h h' st k=>st.at fun o e=>k it (by simp) o e
 item:=by
  walk_at "i"
  subst hP hw hK
  obtain ⟨xs,x,hq,hx⟩:=hg
  obtain ⟨its,rv,p,hz⟩:=I.list hq
  obtain ⟨u,hu,ru⟩:=rv.get hx
  k_dat it "j"
  refine wpAny_pyNext_list_item st p.isList (x:=u) (by simpa using hu) fun h' st' sb=>?_
  have I1:Inv X pins σ H { s with heap:=h' }:=I.turned (t':=s.toks) (fun b o hb e=>(sb.2 b hb).trans e) f0 f1 f3 f4 f5
  obtain ⟨o,e,c,d⟩:=id st'
  exact ⟨u,rfl,Y7 (s:={ s with heap:=h' }) e c d (by decide) ⟨x,H,I1,ru,⟨rfl,fun ys hy=>by rw [I.QB hy hq];exact hx⟩,st',fun b hb=>(hf b hb).1⟩⟩
 done:=by
  walk_at "i"
  subst hP hw hK
  obtain ⟨xs,hq,hx⟩:=hg
  obtain ⟨its,rv,p,hz⟩:=I.list hq
  k_dat it "j"
  have hl:=rv.length
  exact wpAny_pyNext_list_end (I.ok.hd hc) st p.isList (by simp;lia) fun h' eb=>⟨rfl,I.turned (t':=s.toks) (fun b o hb e=>eb b o hb e) f0 f1 f3 f4 f5⟩
 self:=fun _ _ _ _ _ st h=>wpAny_pyIter_listiter st h
theorem Xm {P:aN} {K:bh} (a it:Addr):Turn P w K tg (Itt K a) [it] it (fun i h=>h.IsTupleIter it a i) where
 mem:=by simp
 obj:=fun i h st b hb=>by
  have e:b=it:=by simpa using hb
  subst e
  obtain ⟨o,e,c,d⟩:=st
  exact ⟨o,e,fun v z=>by rw [d] at z;cases z⟩
 keep:=fun i h h' st k=>st.at fun o e=>k it (by simp) o e
 item:=by
  walk_at "i"
  subst hP hw hK
  obtain ⟨xs,x,hq,hx⟩:=hg
  obtain ⟨its,rv,p,hz⟩:=I.tuple hq
  obtain ⟨u,hu,ru⟩:=rv.get hx
  k_dat it "j"
  refine wpAny_pyNext_tuple_item st (show s.heap.IsTuple a its.toArray from p) (x:=u) (by simpa using hu) fun h' st' sb=>?_
  have I1:Inv X pins σ H { s with heap:=h' }:=I.turned (t':=s.toks) (fun b o hb e=>(sb.2 b hb).trans e) f0 f1 f3 f4 f5
  obtain ⟨o,e,c,d⟩:=id st'
  exact ⟨u,rfl,Y7 (s:={ s with heap:=h' }) e c d (by decide) ⟨x,H,I1,ru,⟨rfl,fun ys hy=>by rw [I.aag hy hq];exact hx⟩,st',fun b hb=>(hf b hb).1⟩⟩
 done:=by
  walk_at "i"
  subst hP hw hK
  obtain ⟨xs,hq,hx⟩:=hg
  obtain ⟨its,rv,p,hz⟩:=I.tuple hq
  k_dat it "j"
  have hl:=rv.length
  exact wpAny_pyNext_tuple_end (I.ok.hd hc) st (show s.heap.IsTuple a its.toArray from p) (by simp;lia) fun h' eb=>⟨rfl,I.turned (t':=s.toks) (fun b o hb e=>eb b o hb e) f0 f1 f3 f4 f5⟩
 self:=fun _ _ _ _ _ st h=>wpAny_pyIter_tupleiter st h
theorem Xn {P:aN} {K:bh} (it:Addr) (lo:Int) (n:Nat):Turn P w K tg (Itr lo n) [it] it (fun i h=>IsRangeIter h it (lo+(i:Nat)*1) ((n:Int)-(i:Nat)) 1) where
 mem:=by simp
 obj:=fun i h st b hb=>by
  have e:b=it:=by simpa using hb
  subst e
  exact ⟨_,st,fun v z=>by
   have z':Data.fields _=Data.cell v:=z
   cases z'⟩
 keep:=fun i h h' st k=>k it (by simp) _ st
 item:=by
  walk_at "i"
  subst hP hw hK
  k_dat it "j"
  have W:=Walks.range (prog:=X.prog) (w:=X.w) (I.ok.hd hc) it lo 1 n
  refine W.item i s _ _ hg st fun v h' tk hv st' kk=>?_
  obtain ⟨t,rfl⟩:=hv
  have I1:Inv X pins σ H { s with heap:=h',toks:=tk }:=I.turned (fun b o hb e=>kk b o (by simpa using hb) e) f0 f1 f3 f4 f5
  refine ⟨_,rfl,Y7 (s:={ s with heap:=h',toks:=tk }) (n := "range_iterator") st' rfl rfl (by decide) ⟨.int (lo+i),H,I1,⟨t,?_⟩,⟨rfl,rfl⟩,st',fun b hb=>(hf b hb).1⟩⟩
  rw [Vg]
 done:=by
  walk_at "i"
  subst hP hw hK
  k_dat it "j"
  exact wpAny_pyNext_range_end (I.ok.hd hc) st (by have:n<=i:=hg;lia) fun h' eb=>⟨rfl,I.turned (t':=s.toks) (fun b o hb e=>eb b o hb e) f0 f1 f3 f4 f5⟩
 self:=fun _ _ _ _ _ st h=>wpAny_pyIter_rangeiter st h
noncomputable def iList (K:bh) (tl:TE):TI:=fun σ H R=>tl σ H fun x H1=>∃ a,x = .ref a/\(∃ xs,SqL K H1 a xs)/\R (Itl K a) H1
noncomputable def iTup (K:bh) (tl:TE):TI:=fun σ H R=>tl σ H fun x H1=>∃ a,x = .ref a/\(∃ xs,SqT K H1 a xs)/\R (Itt K a) H1
theorem pq (hl:PE X l tl):PI X tg l (iList X.K tl):=by
 intro pins s σ H R I h
 refine thn (hl pins s σ H _ I h) fun v s1 ⟨x,H1,I1,r1,q1⟩=>?_
 obtain ⟨a,e,⟨xs,hq⟩,q⟩:=q1
 subst e
 cases r1
 obtain ⟨its,rv,p,hz⟩:=I1.list hq
 refine abr p.isList ?_
 refine ⟨s1.heap.objs.size,[s1.heap.objs.size],_,_,H1,rfl,I1.kept (t':=s1.toks) fun b o e=>dR _ e,aai a _,⟨_,eE _ rfl,rfl,rfl⟩,fun b hb=>?_,q⟩
 have e:b=s1.heap.objs.size:=by simpa using hb
 subst e
 exact I1.aah (bV _) (I1.hok.fresh (bV _))
theorem aec (hl:PE X l tl):PI X tg l (iTup X.K tl):=by
 intro pins s σ H R I h
 refine thn (hl pins s σ H _ I h) fun v s1 ⟨x,H1,I1,r1,q1⟩=>?_
 obtain ⟨a,e,⟨xs,hq⟩,q⟩:=q1
 subst e
 cases r1
 obtain ⟨its,rv,p,hz⟩:=I1.tuple hq
 refine wpAny_pyIter_tuple (show s1.heap.IsTuple a its.toArray from p) ?_
 refine ⟨s1.heap.objs.size,[s1.heap.objs.size],_,_,H1,rfl,I1.kept (t':=s1.toks) fun b o e=>dR _ e,Xm a _,⟨_,eE _ rfl,rfl,rfl⟩,fun b hb=>?_,q⟩
 have e:b=s1.heap.objs.size:=by simpa using hb
 subst e
 exact I1.aah (bV _) (I1.hok.fresh (bV _))
theorem aed {R:It->Hp->Prop} {lo hi:Int} {t u v:Tok} {tk:Nat} (I:Inv X pins σ H s) (h1:-(2 ^ 62)<=lo) (h2:lo<2 ^ 62) (h3:-(2 ^ 62)<=hi) (h4:hi<2 ^ 62)
  (q:R (Itr lo (hi-lo).toNat) H):wpAny (model X.prog X.w) X.A (wV (.ref s.heap.objs.size)) (PIE X pins σ tg R) E { s with heap:=s.heap.push { cls:=.type "range",data:=.fields #[.int lo t,.int hi u,.int 1 v] },toks:=tk }:=by
 refine wpAny_pyIter_range (IsRange.new ..) (small_one h1 h2 h3 h4) ?_
 have I1:Inv X pins σ H { s with heap:=s.heap.push { cls:=.type "range",data:=.fields #[.int lo t,.int hi u,.int 1 v] },toks:=tk }:=I.kept fun b o e=>dR _ e
 refine ⟨(s.heap.push { cls:=.type "range",data:=.fields #[.int lo t,.int hi u,.int 1 v] }).objs.size,[(s.heap.push { cls:=.type "range",data:=.fields #[.int lo t,.int hi u,.int 1 v] }).objs.size],_,_,H,rfl,
  I1.kept (t':=tk) fun b o e=>dR _ e,Xn _ lo (hi-lo).toNat,?_,fun b hb=>?_,q⟩
 ·have e1:lo+((0:Nat):Int)*1=lo:=by simp
  have e2:(((hi-lo).toNat:Nat):Int)-((0:Nat):Int)=ajp lo hi 1:=by rw [rangeSize_one];split <;> lia
  show IsRangeIter _ _ (lo+((0:Nat):Int)*1) ((((hi-lo).toNat:Nat):Int)-((0:Nat):Int)) 1
  rw [e1,e2]
  exact eE _ rfl
 ·have e:b=(s.heap.push { cls:=.type "range",data:=.fields #[.int lo t,.int hi u,.int 1 v] }).objs.size:=by simpa using hb
  subst e
  exact I1.aah (bV _) (I1.hok.fresh (bV _))
noncomputable def iRng1 (ta:TA):TI:=fun σ H R=>ta σ H fun vs H1=>∃ j:Int,vs=[.int j] /\ -(2 ^ 62)<=j/\j<2 ^ 62/\R (Itr 0 j.toNat) H1
theorem jC {a:Expr} {ta:TA} {pos:Pos} (hg:Gl X "range") (hm:X.mg "range" = none) (ha:PA X [a] ta) (hs:dM [a] X.env=[(false,eval a X.env)]:=by rfl):PI X tg (.Call (.Name "range" p) [a] [] pos) (iRng1 ta):=by
 intro pins s σ H R I h
 refine Call_ (nA I hg hm boot_range (Gq (thn (ha pos pins s σ H _ I h) fun us s1 ⟨vs,H1,I1,r1,q1⟩=>?_) hs rfl))
 obtain ⟨j,e,q1,q2,q⟩:=q1
 subst e
 cases r1 with
 | cons r rr =>
  cases rr
  obtain ⟨t,rfl⟩:=r
  exact call_range_1 (aed I1 tb_g% tb_g% q1 q2 (by simpa using q))
noncomputable def tFor (wi:TI) (g:TG) (tb:TS):TS:=fun D σ H=>wi σ H fun J H1=>∃ W:Nat->Nat->St->Hp->Prop,(∃ m,W 0 m σ H1)/\∀ i m σ H,W i m σ H ->
 (J.stop i H/\D.nx σ H)\/(J.go i H/\∃ N:St->Hp->Prop,(∀ σ' H',N σ' H'->∃ m',m'<m/\W (i+1) m' σ' H')/\∀ x H',J.yld i H x H'->g x σ H' fun σ2 H2=>tb { D with nx:=N,ct:=N,bk:=D.nx } σ2 H2)
noncomputable def Ce (fp:List Addr) (h:Heap):List (Addr × Obj):=fp.filterMap fun b=>(h.get? b).map fun o=>(b,o)
theorem j9 {b:Addr} {o:Obj} (hb:b∈fp) (e:h.get? b=some o):(b,o)∈Ce fp h:=T5.mpr ⟨b,hb,by rw [e];rfl⟩
theorem aaj {p:Addr × Obj} (hp:p∈Ce fp h):p.1∈fp/\h.get? p.1=some p.2:=by
 obtain ⟨b,hb,e⟩:=T5.mp hp
 cases q:h.get? b with
 | none=>rw [q] at e;cases e
 | some o =>
  rw [q] at e
  have e':(b,o)=p:=dB e
  subst e'
  exact ⟨hb,q⟩
theorem Inv.pinned (I:Inv X pins σ H s) (hf:∀ b∈fp,vQ X pins H b) (ho:∀ b∈fp,∃ o,s.heap.get? b=some o/\∀ v,o.data ≠ .cell v):Inv X (pins++Ce fp s.heap) σ H s :=
 I.Y4 fun p hp=>(dg.mp hp).elim (fun z=>I.pin p (lD _ z)) fun z=>by
  obtain ⟨hb,e⟩:=aaj z
  obtain ⟨f0,f1,f2,_⟩:=hf p.1 hb
  obtain ⟨o,e',d⟩:=ho p.1 hb
  rw [e] at e';cases e'
  exact ⟨e,f0,f1,f2,d⟩
theorem Inv.nG {pl:List (Addr × Obj)} (I:Inv X (pins++pl) σ H s):Inv X pins σ H s:=I.Y4 fun p hp=>I.pin p (lD _ (CV _ hp))
theorem rE {iter:Expr} {wi:TI} {g:TG} {pos:Pos} (hp:Tj (model X.prog X.w) X.A X.env X.xe) (hc:X.calm=true) (hi:PI X tg iter wi) (hg:PG X tg g) (hb:PSs X body tb)
  (hs:∀ x,Fl iter X.env x=pure x:=by intro _;rfl):PS X (.For tg iter body [] pos) (tFor wi g tb):=by
 intro pins s σ H D I h
 refine wpAny_For (thn (hi pins s σ H _ I h) fun v s1 h1=>thn h1 fun itv s2 h2=>?_) hs
 obtain ⟨it,fp,tn,J,H2,e,I2,T,st2,f2,W,⟨m0,w0⟩,turn⟩:=h2
 subst e
 have stat:∀ {H':Hp},(∀ b∈fp,H' b=none)->∀ b∈fp,vQ X pins H' b:=fun hn b hb=>⟨hn b hb,(f2 b hb).2⟩
 refine codeAny_forLoop_any (fun n s'=>∃ i σ' H',Inv X pins σ' H' s'/\tn i s'.heap/\(∀ b∈fp,H' b=none)/\W i n σ' H') ?_ m0 ⟨0,σ,H2,I2,st2,fun b hb=>(f2 b hb).1,w0⟩
 rintro n s3 ⟨i,σ3,H3,I3,st3,fr3,w3⟩
 rcases turn i n σ3 H3 w3 with ⟨stop,qn⟩ | ⟨go,N,hN,step⟩
 ·refine wJ hp (thn (T.done X rfl rfl rfl hc i pins s3 σ3 H3 X.xe I3 (stat fr3) st3 stop) fun r s4 ⟨hr,I4⟩=>?_)
  subst hr
  exact Lf ⟨σ3,H3,I4,qn⟩
 ·refine wJ hp (thn (T.item X rfl rfl rfl hc i pins s3 σ3 H3 X.xe I3 (stat fr3) st3 go) fun r s4 ⟨u,hr,h4⟩=>?_)
  subst hr
  refine wJ hp (thn h4 fun _ s5 ⟨x,H5,I5,r5,y5,st5,fr5⟩=>?_)
  have I5':=I5.pinned (stat fr5) (T.obj _ _ st5)
  refine wJ hp (thn (hg _ s5 σ3 H5 x u _ I5' r5 (step x H5 y5)) fun _ s6 ⟨σ6,H6,I6,q6⟩=>?_)
  refine wJ hp (thn (hb _ s6 σ6 H6 _ I6 q6) fun f s7 q7=>?_)
  have again:∀ {σ7:St} {H7:Hp},Inv X (pins++Ce fp s5.heap) σ7 H7 s7->N σ7 H7->∃ m,m<n/\∃ i σ' H',Inv X pins σ' H' s7/\tn i s7.heap/\(∀ b∈fp,H' b=none)/\W i m σ' H':=fun {σ7 H7} I7 n7=>by
   obtain ⟨m',hm,w7⟩:=hN σ7 H7 n7
   refine ⟨m',hm,i+1,σ7,H7,I7.nG,T.keep _ _ _ st5 fun b hb o e=>(I7.pin (b,o) (lD _ (lD _ (j9 hb e)))).1,fun b hb=>?_,w7⟩
   obtain ⟨o,e,d⟩:=T.obj _ _ st5 b hb
   exact (I7.pin (b,o) (lD _ (lD _ (j9 hb e)))).2.1
  cases f with
  | next=>obtain ⟨σ7,H7,I7,n7⟩:=q7;exact again I7 n7
  | cont=>obtain ⟨σ7,H7,I7,n7⟩:=q7;exact again I7 n7
  | brk=>obtain ⟨σ7,H7,I7,q7⟩:=q7;exact ⟨σ7,H7,I7.nG,q7⟩
  | ret v=>obtain ⟨x7,σ7,H7,I7,r7,q7⟩:=q7;exact ⟨x7,σ7,H7,I7.nG,r7,q7⟩
theorem GZ {K:bh} {a:Addr} {g:TG} (Pv:Nat->St->Hp->Prop) (h0:Pv 0 σ H) (hl:∀ i σ H,i<=xs.length->Pv i σ H->SqL K H a xs)
  (hs:∀ i x σ H,xs[i]? = some x->Pv i σ H->g x σ H fun σ2 H2=>tb { D with nx:=Pv (i+1),ct:=Pv (i+1),bk:=D.nx } σ2 H2) (hd:∀ σ H,Pv xs.length σ H->D.nx σ H) :
  ∃ W:Nat->Nat->St->Hp->Prop,(∃ m,W 0 m σ H)/\∀ i m σ H,W i m σ H ->
   ((Itl K a).stop i H/\D.nx σ H)\/((Itl K a).go i H/\∃ N:St->Hp->Prop,(∀ σ' H',N σ' H'->∃ m',m'<m/\W (i+1) m' σ' H')/\∀ x H',(Itl K a).yld i H x H'->g x σ H' fun σ2 H2=>tb { D with nx:=N,ct:=N,bk:=D.nx } σ2 H2):=by
 refine ⟨fun i m σ H=>m=xs.length-i/\i<=xs.length/\Pv i σ H,⟨xs.length,by simp,cB _,h0⟩,?_⟩
 rintro i m σ H ⟨rfl,hi,p⟩
 have q:=hl i σ H hi p
 by_cases hlt:i<xs.length
 ·refine .inr ⟨⟨xs,xs[i],q,by simp [hlt]⟩,Pv (i+1),fun σ' H' p'=>⟨xs.length-(i+1),by lia,rfl,hlt,p'⟩,fun x H' y=>?_⟩
  obtain ⟨e,y⟩:=y
  subst e
  exact hs i x σ _ (y xs q) p
 ·have e:i=xs.length:=by lia
  subst e
  exact .inl ⟨⟨xs,q,bV _⟩,hd σ H p⟩
theorem vo {lo:Int} {g:TG} (Pv:Nat->St->Hp->Prop) (h0:Pv 0 σ H)
  (hs:∀ i σ H,i<n->Pv i σ H->g (.int (lo+i)) σ H fun σ2 H2=>tb { D with nx:=Pv (i+1),ct:=Pv (i+1),bk:=D.nx } σ2 H2) (hd:∀ σ H,Pv n σ H->D.nx σ H) :
  ∃ W:Nat->Nat->St->Hp->Prop,(∃ m,W 0 m σ H)/\∀ i m σ H,W i m σ H ->
   ((Itr lo n).stop i H/\D.nx σ H)\/((Itr lo n).go i H/\∃ N:St->Hp->Prop,(∀ σ' H',N σ' H'->∃ m',m'<m/\W (i+1) m' σ' H')/\∀ x H',(Itr lo n).yld i H x H'->g x σ H' fun σ2 H2=>tb { D with nx:=N,ct:=N,bk:=D.nx } σ2 H2):=by
 refine ⟨fun i m σ H=>m=n-i/\i<=n/\Pv i σ H,⟨n,by simp,cB _,h0⟩,?_⟩
 rintro i m σ H ⟨rfl,hi,p⟩
 by_cases hlt:i<n
 ·refine .inr ⟨hlt,Pv (i+1),fun σ' H' p'=>⟨n-(i+1),by lia,rfl,hlt,p'⟩,fun x H' y=>?_⟩
  obtain ⟨e,y⟩:=y
  subst e y
  exact hs i σ _ hlt p
 ·have e:i=n:=by lia
  subst e
  exact .inl ⟨bV _,hd σ H p⟩
theorem za {c:TT} (Pv:St->Hp->Prop) (μ:St->Hp->Nat) (h0:Pv σ H)
  (hs:∀ σ H,Pv σ H->c σ H fun b H1=>if b=true then tb { D with nx:=fun σ' H'=>Pv σ' H'/\μ σ' H'<μ σ H,ct:=fun σ' H'=>Pv σ' H'/\μ σ' H'<μ σ H,bk:=D.nx } σ H1 else D.nx σ H1)
  (mono:∀ σ H Q Q',(∀ b H1,Q b H1->Q' b H1)->c σ H Q->c σ H Q'):Xl c tb D σ H:=by
 refine ⟨fun m σ H=>m=μ σ H/\Pv σ H,⟨_,rfl,h0⟩,?_⟩
 rintro m σ H ⟨rfl,p⟩
 refine mono σ H _ _ (fun b H1 q=>?_) (hs σ H p)
 cases b with
 | true=>exact ⟨_,fun σ' H' ⟨p',l⟩=>⟨_,l,rfl,p'⟩,q⟩
 | false=>exact q
noncomputable abbrev R2:=V->V->Hp->VK->Prop
variable {r:R2}
noncomputable def OpR (X:Cx) (f:Value->Value->Sem Value) (r:R2):Prop :=
 ∀ (pins:List (Addr × Obj)) (s:Shared) (σ:St) (H:Hp) (x y:V) (v u:Value) (Q:VK),Inv X pins σ H s->RelV x v->RelV y u->r x y H Q ->
  wpAny (model X.prog X.w) X.A (f v u) (EP X pins σ Q) X.xe s
noncomputable def UnR (X:Cx) (f:Value->Sem Value) (r:V->Hp->VK->Prop):Prop :=
 ∀ (pins:List (Addr × Obj)) (s:Shared) (σ:St) (H:Hp) (x:V) (v:Value) (Q:VK),Inv X pins σ H s->RelV x v->r x H Q ->
  wpAny (model X.prog X.w) X.A (f v) (EP X pins σ Q) X.xe s
noncomputable def jD (X:Cx) (f:Value) (r:List V->Hp->VK->Prop):Prop :=
 ∀ (pins:List (Addr × Obj)) (s:Shared) (σ:St) (H:Hp) (xs:List V) (us:List Value) (Q:VK),Inv X pins σ H s->Vals xs us->r xs H Q ->
  wpAny (model X.prog X.w) X.A (call f us) (EP X pins σ Q) X.xe s
@[reducible] noncomputable def tOp (r:R2) (ta tb:TE):TE:=fun σ H Q=>ta σ H fun x H1=>tb σ H1 fun y H2=>r x y H2 Q
noncomputable def tUn (r:V->Hp->VK->Prop) (ta:TE):TE:=fun σ H Q=>ta σ H fun x H1=>r x H1 Q
noncomputable def rI (C:Int->Int->Prop) (g:Int->Int->V):R2:=fun x y H Q=>∃ i j,x = .int i/\y = .int j/\C i j/\Q (g i j) H
noncomputable def rI0 (g:Int->Int->V):R2:=fun x y H Q=>∃ i j,x = .int i/\y = .int j/\Q (g i j) H
noncomputable def rU (g:Int->V):V->Hp->VK->Prop:=fun x H Q=>∃ i,x = .int i/\Q (g i) H
section
variable {a b:Expr} {tb tc:TE} {pos:Pos}
theorem binT (ha:PE X a ta) (hb:PE X b tb) {R:V->V->Hp->Prop} (I:Inv X pins σ H s)
  (h:ta σ H fun x H1=>tb σ H1 fun y H2=>R x y H2) {Q:Value->Shared->Prop} {f:Value->Value->Sem Value}
  (hf:∀ v u s2 x y H2,Inv X pins σ H2 s2->RelV x v->RelV y u->R x y H2->wpAny (model X.prog X.w) X.A (f v u) Q X.xe s2) :
  wpAny (model X.prog X.w) X.A (eval a X.env) (fun v s₁=>wpAny (model X.prog X.w) X.A (eval b X.env) (fun u s₂=>wpAny (model X.prog X.w) X.A (f v u) Q X.xe s₂) X.xe s₁) X.xe s:=by
 refine thn (ha pins s σ H _ I h) fun v s1 ⟨x,H1,I1,r1,q1⟩=>?_
 refine thn (hb pins s1 σ H1 _ I1 q1) fun u s2 ⟨y,H2,I2,r2,q2⟩=>?_
 exact hf v u s2 x y H2 I2 r1 r2 q2
theorem aJ {op:Ma} (ho:OpR X (tV op) r) (ha:PE X a ta) (hb:PE X b tb):PE X (.BinOp a op b pos) (tOp r ta tb):=by
 walk_at "k"
 exact wpAny_BinOp (binT ha hb I h fun v u s2 x y H2 I2 rx ry q=>ho pins s2 σ H2 x y v u Q I2 rx ry q)
theorem aee {op:UnaryOp} {r:V->Hp->VK->Prop} (ho:UnR X (unaryOp op) r) (ha:PE X a ta):PE X (.UnaryOp op a pos) (tUn r ta):=by
 walk_at "k"
 exact UnaryOp_ (thn (ha pins s σ H _ I h) fun v s1 ⟨x,H1,I1,r1,q1⟩=>ho pins s1 σ H1 x v Q I1 r1 q1)
theorem opI {C:Int->Int->Prop} 
  (rule:∀ (i j:Int) (t u:Tok) (s:Shared) (Q:Value->Shared->Prop) (E:Value->Shared->Prop),C i j->Q (.int (g i j) s.toks) { s with toks:=s.toks+1 }->wpAny (model X.prog X.w) X.A (f (.int i t) (.int j u)) Q E s) :
  OpR X f (rI C fun i j=>.int (g i j)):=by
 walk_at "l"
 obtain ⟨i,j,rfl,rfl,hc,q⟩:=h
 obtain ⟨t,rfl⟩:=rx
 obtain ⟨t',rfl⟩:=ry
 exact rule i j t t' s _ _ hc ⟨.int (g i j),H,I.tok _,⟨_,rfl⟩,q⟩
theorem opI0 
  (rule:∀ (i j:Int) (t u:Tok) (s:Shared) (Q:Value->Shared->Prop) (E:Value->Shared->Prop),Q (.int (g i j) s.toks) { s with toks:=s.toks+1 }->wpAny (model X.prog X.w) X.A (f (.int i t) (.int j u)) Q E s) :
  OpR X f (rI0 fun i j=>.int (g i j)):=by
 walk_at "l"
 obtain ⟨i,j,rfl,rfl,q⟩:=h
 obtain ⟨t,rfl⟩:=rx
 obtain ⟨t',rfl⟩:=ry
 exact rule i j t t' s _ _ ⟨.int (g i j),H,I.tok _,⟨_,rfl⟩,q⟩
theorem opB0 {g:Int->Int->Bool}
  (rule:∀ (i j:Int) (t u:Tok) (s:Shared) (Q:Value->Shared->Prop) (E:Value->Shared->Prop),Q (.bool (g i j)) s->wpAny (model X.prog X.w) X.A (f (.int i t) (.int j u)) Q E s) :
  OpR X f (rI0 fun i j=>.bl (g i j)):=by
 walk_at "l"
 obtain ⟨i,j,rfl,rfl,q⟩:=h
 obtain ⟨t,rfl⟩:=rx
 obtain ⟨t',rfl⟩:=ry
 exact rule i j t t' s _ _ ⟨.bl (g i j),H,I,rfl,q⟩
noncomputable def CDiv (i j:Int):Prop:=0<j/\j<1073741824
noncomputable def CPow (i j:Int):Prop:=0<=j/\j<=1000000/\i.natAbs<2 ^ 64
noncomputable def aef (i j:Int):Prop:=(-(2 ^ 64)<i/\i<2 ^ 64)\/(-(2 ^ 64)<j/\j<2 ^ 64)
theorem aef.ok {i j:Int} (h:aef i j):IntMulOk i j:=by
 rcases h with ⟨h1,h2⟩ | ⟨h1,h2⟩
 ·exact .of_left (abF h1 h2)
 ·exact .of_right (abF h1 h2)
theorem bW:OpR X (tV .Add) (rI0 fun i j=>.int (i+j)):=opI0 fun _ _ _ _ _ _ _ q=>add_int q
theorem xY:OpR X (tV .Sub) (rI0 fun i j=>.int (i-j)):=opI0 fun _ _ _ _ _ _ _ q=>sub_int q
theorem jc:OpR X (tV .Mult) (rI aef fun i j=>.int (i*j)):=opI fun _ _ _ _ _ _ _ hc q=>mul_int q hc.ok
theorem gw:OpR X (tV .FloorDiv) (rI CDiv fun i j=>.int (i / j)):=opI fun i j _ _ _ _ _ hc q=>by
 have h1:(0:Int)<j:=hc.1
 have h2:j<1073741824:=hc.2
 exact floordiv_int tb_g% (by rw [Int.fdiv_eq_ediv_of_nonneg i tb_g%];exact q) (.inl (PyProof.noPylong_small tb_g%))
theorem dF:OpR X (tV .Mod) (rI (fun _ j=>0<j) fun i j=>.int (i % j)):=opI fun i j _ _ _ _ _ hc q=>by
 have h1:(0:Int)<j:=hc
 exact mod_int' tb_g% (by rw [Int.fmod_eq_emod_of_nonneg i tb_g%];exact q)
theorem aeg:OpR X (tV .LShift) (rI CPow fun i j=>.int (i*2 ^ j.toNat)):=opI fun _ _ _ _ _ _ _ hc q=>lshift_int_small hc.1 hc.2.1 hc.2.2 q
theorem unI {f:Value->Sem Value} {g:Int->Int}
  (rule:∀ (i:Int) (t:Tok) (s:Shared) (Q:Value->Shared->Prop) (E:Value->Shared->Prop),Q (.int (g i) s.toks) { s with toks:=s.toks+1 }->wpAny (model X.prog X.w) X.A (f (.int i t)) Q E s) :
  UnR X f (rU fun i=>.int (g i)):=by
 intro pins s σ H x v Q I rx h
 obtain ⟨i,rfl,q⟩:=h
 obtain ⟨t,rfl⟩:=rx
 exact rule i t s _ _ ⟨.int (g i),H,I.tok _,⟨_,rfl⟩,q⟩
theorem Xo:UnR X (unaryOp .USub) (rU fun i=>.int (-i)):=unI fun _ _ _ _ _ q=>neg_int q
end
noncomputable def scal:V->V->Bool
 | .non,.non=>true | .non,.int _=>true | .int _,.non=>true | .non,.bl _=>true | .bl _,.non=>true | .non,.str _=>true | .str _,.non=>true
 | .int _,.int _=>true | .bl _,.bl _=>true | .str _,.str _=>true | .byt _,.byt _=>true
 | .int _,.str _=>true | .str _,.int _=>true | .bl _,.str _=>true | .str _,.bl _=>true
 | _,_=>false
noncomputable def rEq:R2:=fun x y H Q=>scal x y=true/\Q (.bl (decide (x=y))) H
noncomputable def rNe:R2:=fun x y H Q=>scal x y=true/\Q (.bl (!decide (x=y))) H
theorem Y8 {i j:Int}:decide (V.int i=V.int j)=(i == j):=by
 rw [Nt]
 simp
theorem aeh {i j:Bool}:decide (V.bl i=V.bl j)=(i == j):=by
 rw [Nt]
 simp
theorem Y9 {i j:Str}:decide (V.str i=V.str j)=(i == j):=by
 rw [Nt]
 simp
theorem Za {i j:Array UInt8}:decide (V.byt i=V.byt j)=(i.toList == j.toList):=by
 rw [Nt]
 cases i
 cases j
 simp
section
variable {a b:Expr} {tb tc:TE} {pos:Pos}
theorem dG {Q:VK} {k k':Bool} (I:Inv X pins σ H s) (q:Q (.bl k) H) (e:k=k'):EP X pins σ Q (.bool k') s:=by
 subst e
 exact ⟨.bl k,H,I,rfl,q⟩
theorem mJ:OpR X (jF .Eq) rEq:=by
 walk_at "l"
 obtain ⟨hs,q⟩:=h
 cases x with
 | non =>
  cases rx
  cases y with
  | non=>cases ry;exact ai2 (dG I q (by simp))
  | bl j=>cases ry;exact ai3 (dG I q (by simp))
  | int j=>obtain ⟨t',rfl⟩:=ry;exact ai8 (dG I q (by simp))
  | str j=>obtain ⟨t',rfl⟩:=ry;exact ai9 (dG I q (by simp))
  | _=>exact absurd (show false=true from hs) je
 | bl i =>
  cases rx
  cases y with
  | non=>cases ry;exact ai4 (dG I q (by simp))
  | bl j=>cases ry;exact eq_bool (dG I q aeh)
  | str j=>obtain ⟨t',rfl⟩:=ry;exact ajg (dG I q (by simp))
  | _=>exact absurd (show false=true from hs) je
 | int i =>
  obtain ⟨t,rfl⟩:=rx
  cases y with
  | non=>cases ry;exact aja (dG I q (by simp))
  | int j=>obtain ⟨t',rfl⟩:=ry;exact eq_int (dG I q Y8)
  | str j=>obtain ⟨t',rfl⟩:=ry;exact ajk (dG I q (by simp))
  | _=>exact absurd (show false=true from hs) je
 | str i =>
  obtain ⟨t,rfl⟩:=rx
  cases y with
  | non=>cases ry;exact ajb (dG I q (by simp))
  | bl j=>cases ry;exact ajh (dG I q (by simp))
  | int j=>obtain ⟨t',rfl⟩:=ry;exact ajl (dG I q (by simp))
  | str j=>obtain ⟨t',rfl⟩:=ry;exact eq_str (dG I q Y9)
  | _=>exact absurd (show false=true from hs) je
 | byt i =>
  obtain ⟨t,rfl⟩:=rx
  cases y with
  | byt j=>obtain ⟨t',rfl⟩:=ry;exact PySem.W.eq_bytes (dG I q Za)
  | _=>exact absurd (show false=true from hs) je
 | _=>cases y <;> exact absurd (show false=true from hs) je
theorem sY:OpR X (jF .NotEq) rNe:=by
 walk_at "l"
 obtain ⟨hs,q⟩:=h
 cases x with
 | non =>
  cases rx
  cases y with
  | non=>cases ry;exact ai5 (dG I q (by simp))
  | bl j=>cases ry;exact ai6 (dG I q (by simp))
  | int j=>obtain ⟨t',rfl⟩:=ry;exact ajc (dG I q (by simp))
  | str j=>obtain ⟨t',rfl⟩:=ry;exact ajd (dG I q (by simp))
  | _=>exact absurd (show false=true from hs) je
 | bl i =>
  cases rx
  cases y with
  | non=>cases ry;exact ai7 (dG I q (by simp))
  | bl j=>cases ry;exact ne_bool (dG I q (congrArg not aeh))
  | str j=>obtain ⟨t',rfl⟩:=ry;exact aji (dG I q (by simp))
  | _=>exact absurd (show false=true from hs) je
 | int i =>
  obtain ⟨t,rfl⟩:=rx
  cases y with
  | non=>cases ry;exact aje (dG I q (by simp))
  | int j=>obtain ⟨t',rfl⟩:=ry;exact ne_int (dG I q (congrArg not Y8))
  | str j=>obtain ⟨t',rfl⟩:=ry;exact ajm (dG I q (by simp))
  | _=>exact absurd (show false=true from hs) je
 | str i =>
  obtain ⟨t,rfl⟩:=rx
  cases y with
  | non=>cases ry;exact ajf (dG I q (by simp))
  | bl j=>cases ry;exact ajj (dG I q (by simp))
  | int j=>obtain ⟨t',rfl⟩:=ry;exact ajn (dG I q (by simp))
  | str j=>obtain ⟨t',rfl⟩:=ry;exact ne_str (dG I q (congrArg not Y9))
  | _=>exact absurd (show false=true from hs) je
 | byt i =>
  obtain ⟨t,rfl⟩:=rx
  cases y with
  | byt j=>obtain ⟨t',rfl⟩:=ry;exact PySem.W.ne_bytes (dG I q (congrArg not Za))
  | _=>exact absurd (show false=true from hs) je
 | _=>cases y <;> exact absurd (show false=true from hs) je
theorem uH:OpR X (jF .Lt) (rI0 fun i j=>.bl (decide (i<j))):=opB0 fun _ _ _ _ _ _ _ q=>lt_int q
theorem JX:OpR X (jF .LtE) (rI0 fun i j=>.bl (decide (i<=j))):=opB0 fun _ _ _ _ _ _ _ q=>le_int q
theorem v8:OpR X (jF .Gt) (rI0 fun i j=>.bl (decide (j<i))):=opB0 fun _ _ _ _ _ _ _ q=>gt_int q
theorem aei:OpR X (jF .GtE) (rI0 fun i j=>.bl (decide (j<=i))):=opB0 fun _ _ _ _ _ _ _ q=>ge_int q
theorem ajJ:OpR X (jF .Is) (fun x y H Q=>y = .non/\Q (.bl (decide (x = .non))) H):=by
 walk_at "l"
 obtain ⟨rfl,q⟩:=h
 cases ry
 refine is_none_gen (dG I q ?_)
 cases x <;> first
  | (cases rx;rfl)
  | (obtain ⟨t,rfl⟩:=rx;rfl)
theorem Oh:OpR X (jF .IsNot) (fun x y H Q=>y = .non/\Q (.bl (!decide (x = .non))) H):=by
 walk_at "l"
 obtain ⟨rfl,q⟩:=h
 cases ry
 refine isnot_none_gen (dG I q ?_)
 cases x <;> first
  | (cases rx;rfl)
  | (obtain ⟨t,rfl⟩:=rx;rfl)
theorem aX (b:Expr) (h:op ≠ .In:=by decide) (h2:op ≠ .NotIn:=by decide):Ln op b=false:=by
 have e1:(op == CmpOp.In)=false:=by cases op <;> first | rfl | exact absurd rfl h
 have e2:(op == CmpOp.NotIn)=false:=by cases op <;> first | rfl | exact absurd rfl h2
 cases b <;> simp [Ln,e1,e2]
theorem pA (ho:OpR X (jF op) r) (ha:PE X a ta) (hb:PE X b tb) (hm:Ln op b=false):PE X (.Compare a [op] [b] pos) (tOp r ta tb):=by
 walk_at "k"
 exact wpAny_Compare1 (binT ha hb I h fun v u s2 x y H2 I2 rx ry q=>ho pins s2 σ H2 x y v u Q I2 rx ry q) hm
@[reducible] noncomputable def aej (t:TE):TT:=fun σ H Q=>t σ H fun x H'=>∃ k,x = .bl k/\Q k H'
theorem aR (ho:OpR X (jF op) r) (ha:PE X a ta) (hb:PE X b tb) (hm:Ln op b=false):PT X (.Compare a [op] [b] pos) (aej (tOp r ta tb)):=by
 walk_at "k"
 refine wpAny_isTrue_Compare1 (thn (ha pins s σ H _ I h) fun v s1 ⟨x,H1,I1,r1,q1⟩=>thn (hb pins s1 σ H1 _ I1 q1) fun u s2 ⟨y,H2,I2,r2,q2⟩ =>
  thn (ho pins s2 σ H2 x y v u _ I2 r1 r2 q2) fun c s3 ⟨z,H3,I3,r3,k,e,q3⟩=>?_) hm
 subst e
 cases r3
 exact Am ⟨H3,I3,q3⟩
theorem G9:(sizeLine:Nat)<2 ^ 63:=by rw [Lp];decide
theorem vals1 {x:V} (r:Vals [x] us):∃ u,us=[u]/\RelV x u:=by
 cases r with
 | cons r1 r2=>cases r2;exact ⟨_,rfl,r1⟩
theorem vals2 {x:V} (r:Vals [x,y] us):∃ u w',us=[u,w']/\RelV x u/\RelV y w':=by
 cases r with
 | cons r1 r2 =>
  cases r2 with
  | cons r3 r4=>cases r4;exact ⟨_,_,rfl,r1,r3⟩
theorem Cg (hc:X.calm=true):jD X (.builtin "max") (fun xs H Q=>∃ i j,xs=[.int i,.int j]/\Q (.int (if j>i then j else i)) H):=by
 intro pins s σ H xs us Q I r h
 obtain ⟨i,j,rfl,q⟩:=h
 obtain ⟨u,w',rfl,⟨t,rfl⟩,⟨t',rfl⟩⟩:=vals2 r
 refine max_two_ints (I.ok.hd hc) fun h' tk k=>⟨_,H,I.kept k,?_,q⟩
 by_cases hj:j>i
 ·rw [if_pos hj,if_pos hj];exact ⟨_,rfl⟩
 ·rw [if_neg hj,if_neg hj];exact ⟨_,rfl⟩
noncomputable def LenV (K:bh) (x:V) (H:Hp) (n:Nat):Prop :=
 match x with
 | .str y=>y.length<=sizeLine/\n=y.length
 | .byt y=>y.size<=sizeLine/\n=y.size
 | .ref p=>(∃ xs,SqL K H p xs/\n=xs.length)\/∃ xs,SqT K H p xs/\n=xs.length
 | _=>False
theorem aek:jD X (.builtin "len") (fun xs H Q=>∃ x n,xs=[x]/\LenV X.K x H n/\Q (.int n) H):=by
 intro pins s σ H xs us Q I r h
 obtain ⟨x,n,rfl,e,q⟩:=h
 obtain ⟨u,rfl,rx⟩:=vals1 r
 have hl:=G9
 have hs:sizeLine=16777216:=Lp
 cases x with
 | str y =>
  obtain ⟨t,rfl⟩:=rx
  obtain ⟨hy,e'⟩:y.length<=sizeLine/\n=y.length:=e
  subst e'
  exact len_str tb_g% ⟨.int _,H,I.tok _,⟨_,rfl⟩,q⟩
 | byt y =>
  obtain ⟨t,rfl⟩:=rx
  obtain ⟨hy,e'⟩:y.size<=sizeLine/\n=y.size:=e
  subst e'
  exact PySem.W.len_bytes tb_g% ⟨.int _,H,I.tok _,⟨_,rfl⟩,q⟩
 | ref p =>
  cases rx
  have e':(∃ xs,SqL X.K H p xs/\n=xs.length)\/∃ xs,SqT X.K H p xs/\n=xs.length:=e
  rcases e' with ⟨xs,hx,e'⟩ | ⟨xs,hx,e'⟩
  ·subst e'
   obtain ⟨its,r',pl,hz⟩:=I.list hx
   have hlen:=r'.length
   exact Calls.call_len_list pl.isList (by simp only [dY];lia) ⟨.int xs.length,H,I.tok _,⟨_,by simp only [dY];rw [hlen]⟩,q⟩
  ·subst e'
   obtain ⟨its,r',pl,hz⟩:=I.tuple hx
   have hlen:=r'.length
   exact len_tuple pl (by simp only [dY];lia) ⟨.int xs.length,H,I.tok _,⟨_,by simp only [dY];rw [hlen]⟩,q⟩
 | _=>exact (show False from e).elim
end
structure Xp (h:Heap) (x dx C:Addr) (mA:Str->Option Value):Prop where
 obj:h.get? x=some (uh C dx)
 ns:h.Ns1 dx mA
 ne:dx≠x
theorem aak (n:h.Ns1 dx mA):∃ od,h.get? dx=some od/\∀ name,MN name od=some (mA name):=by
 obtain ⟨o,es,ep,ho,hd,hk,_,hm⟩:=n
 refine ⟨o,ho,fun name=>?_⟩
 have e:=hm name
 unfold nsFind findBy at e
 rw [<- Array.find?_toList] at e
 unfold MN
 rw [hd]
 dsimp only
 split
 ·rename_i y q
  rw [q] at e
  exact congrArg some e
 ·rename_i q
  rw [q] at e
  have a:es.toList.any (·.refKey)=false:=by
   rw [List.any_eq_false]
   intro y hy
   obtain ⟨z,t,hkey⟩:=hk y (Array.mem_toList_iff.mp hy)
   simp [ajz,hkey]
  have a':¬ es.toList.any (·.refKey)=true:=by rw [a];exact je
  rw [if_neg a']
  exact congrArg some e
theorem Xp.look {x:Addr} (I:Xp h x dx C mA):∃ od,PySem.W.InstAt h x (uh C dx) C (some od)/\∀ name,MN name od=some (mA name) :=
 let ⟨od,ho,hl⟩:=aak I.ns
 ⟨od,⟨I.obj,rfl,rfl,ho⟩,hl⟩
section
variable {K:bh} {x f:Addr} {v:Value}
theorem get_map {expr:Bool} (X:K.In s.heap) (I:Xp s.heap x dx C mA) (hg:Bj K C name=true) (hh:Gg K C=true)
  (ha:jB K (.ref C) name=some none) (hv:mA name=some v) (hv':acv v=true) (h:Q v { s with toks:=s.toks+1 }) :
  wpAny (model prog w) A (getAttr (.ref x) name expr) Q E s:=by
 obtain ⟨od,J,hl⟩:=I.look
 exact PySem.W.get_value X J (Ul hg).1 (PySem.W.findObj_own hh ha rfl (by rw [hl,hv])) hv' h
theorem ael {Q:Value × List Value->Shared->Prop} (X:K.In s.heap) (I:Xp s.heap x dx C mA) (hg:Bj K C name=true)
  (hf:jB K (.ref C) name=some (some (.ref f))) (ht:Gj K (.ref f)=true) (hv:mA name=none) (h:Q (.ref f,[.ref x]) s) :
  wpAny (model prog w) A (Tn (.ref x) name pl) Q E s:=by
 obtain ⟨od,J,hl⟩:=I.look
 exact PySem.W.method_fn X J (Ul hg).1 (Ul hg).2 hf (beq_iff_eq.mp ht) (by show (MN name od).map (·.isSome)=some false;rw [hl,hv];rfl) h
theorem ags {ns:List Str} {Q:Unit->Shared->Prop} (X:K.In s.heap) (I:Xp s.heap x dx C mA)
  (hs:jB K (.ref C) "__setattr__" = some (some (.builtin "object.__setattr__"))) (hp:MF K C=true) (ht:Ur K C name=some none) (hh:Gg K C=true)
  (hw:S5 mA ns) (hsz:ns.length<=sizeLine)
  (h:∀ h',Xp h' x dx C (fun y=>if y=name then some v else mA y)->uf dx s.heap h'->Q () { s with heap:=h',toks:=s.toks+2 }) :
  wpAny (model prog w) A (setAttr (.ref x) name v) Q E s:=by
 obtain ⟨od,J,hl⟩:=I.look
 refine PySem.W.set_plain X J hs (PySem.W.osa_open (s:={ s with toks:=s.toks+1 }) (r:=none) X J hp ht fun b=>?_)
 obtain ⟨cd,hc,hd'⟩:=PySem.W.any_some hh
 have hx:s.heap.get? x=some ⟨.ref C,some dx,.plain,#[]⟩:=I.obj
 refine aG (bH (aG (aG (wpAny_loadPart hx (aG (aju (s:={ s with toks:=s.toks+1 }) (PySem.W.looks_clsIn X hc) ?_))))))
 rw [hd']
 refine bH (a:=some dx) (aG (bH (aG ?_)))
 refine wpAny_nsSet1 (s:={ s with toks:=s.toks+1 }) I.ns fun h' hn2 hs2=>?_
 obtain ⟨oD,esD,epD,hoD,hdD,hcD⟩:=hn2.count (ajv name v hw)
 refine aG (wpAny_lookBehind hoD (by rw [hdD];exact pastItsLine_dict (iC hcD (by rw [iY];lia))) ?_)
 exact bH (h _ ⟨(hs2.2 _ (aK I.ne)).trans I.obj,hn2,I.ne⟩ hs2)
theorem aem {R:j6->Shared->Prop} {vs:List Value} (X:K.In s.heap) (hm:MJ K C=true)
  (hi:jB K (.ref C) "__init__" = some (some (.ref f))) (hf:Us K (.ref f)=some (.type "function"))
  (h:gj (model prog w) (A.under (.builtin "type.__call__" ⟨.ref C::vs,kw⟩)) (.call (.ref f) ⟨.ref (s.heap.objs.size+1)::vs,kw⟩) (PySem.W.InitBack (s.heap.objs.size+1) R)
   { s with heap:=(s.heap.push yP).push (uh C s.heap.objs.size) }) :
  gj (model prog w) A (.call (.ref C) ⟨vs,kw⟩) R s:=by
 obtain ⟨hh,g,d,t,os⟩:=s
 exact PySem.W.make_core (PySem.W.makes_of X hm) (PySem.W.looks_findIn X hi) (fun self=>PySem.W.bind_fn X self hf) (.inl rfl) h
end
noncomputable def bU (f:Str) (v:V):List (Str × V)->List (Str × V)
 | []=>[(f,v)]
 | (g,x)::r=>if g=f then (g,v)::r else (g,x)::bU f v r
theorem Df (f g:Str) (v:V):∀ fs:List (Str × V),(bU f v fs).lookup g=if g=f then some v else fs.lookup g
 | []=>by
  show xH g [(f,v)]=_
  by_cases h:g=f
  ·have hb:(g == f)=true:=beq_iff_eq.mpr h
   simp only [xH,hb,if_pos h]
  ·have hb:(g == f)=false:=beq_eq_false_iff_ne.mpr h
   simp only [xH,hb,if_neg h]
 | (k,x)::r=>by
  have ih:=Df f g v r
  rw [show bU f v ((k,x)::r)=(if k=f then (k,v)::r else (k,x)::bU f v r) from rfl]
  by_cases hk:k=f
  ·rw [if_pos hk]
   by_cases h:g=k
   ·have hb:(g == k)=true:=beq_iff_eq.mpr h
    simp only [xH,hb,if_pos (h.trans hk)]
   ·have hb:(g == k)=false:=beq_eq_false_iff_ne.mpr h
    simp only [xH,hb,if_neg (fun e:g=f=>h (e.trans hk.symm))]
  ·rw [if_neg hk]
   by_cases h:g=k
   ·have hb:(g == k)=true:=beq_iff_eq.mpr h
    simp only [xH,hb,if_neg (fun e:g=f=>hk (h.symm.trans e))]
   ·have hb:(g == k)=false:=beq_eq_false_iff_ne.mpr h
    simp only [xH,hb]
    exact ih
theorem Ci (f:Str) (v:V):∀ fs:List (Str × V),f∈(bU f v fs).map (·.1)/\∀ g,g∈fs.map (·.1)->g∈(bU f v fs).map (·.1)
 | []=>⟨by simp [bU],fun g h=>by simp at h⟩
 | (k,x)::r=>by
  obtain ⟨i1,i2⟩:=Ci f v r
  rw [show bU f v ((k,x)::r)=(if k=f then (k,v)::r else (k,x)::bU f v r) from rfl]
  by_cases hk:k=f
  ·rw [if_pos hk]
   subst hk
   exact ⟨by simp,fun g h=>by simpa using h⟩
  ·rw [if_neg hk]
   refine ⟨?_,fun g h=>?_⟩
   ·rw [f9]
    exact gk _ i1
   ·rw [f9] at h ⊢
    rcases cU.mp h with e | e
    ·exact cU.mpr (.inl e)
    ·exact gk _ (i2 g e)
theorem Dg (f:Str) (v:V):∀ fs:List (Str × V),(bU f v fs).length<=fs.length+1
 | []=>by simp [bU]
 | (k,x)::r=>by
  have ih:=Dg f v r
  rw [show bU f v ((k,x)::r)=(if k=f then (k,v)::r else (k,x)::bU f v r) from rfl]
  by_cases hk:k=f
  ·rw [if_pos hk,iY,iY];lia
  ·rw [if_neg hk,iY,iY];lia
theorem tM.some_of {o:Option Value} (r:tM (some v) o):∃ u,o=some u/\RelV v u:=by
 cases o with
 | none=>exact (show False from r).elim
 | some u=>exact ⟨u,rfl,r⟩
theorem tM.none_of {o:Option Value} (r:tM none o):o=none:=by
 cases o with
 | none=>rfl
 | some u=>exact (show False from r).elim
theorem aal (r:RelV v u):acv u=true:=by
 cases v with
 | non=>cases (show u=Value.none from r);rfl
 | bl b=>cases (show u=Value.bool b from r);rfl
 | int i=>obtain ⟨t,e⟩:=(show ∃ t,u=Value.int i t from r);cases e;rfl
 | str x=>obtain ⟨t,e⟩:=(show ∃ t,u=Value.str x t from r);cases e;rfl
 | byt b=>obtain ⟨t,e⟩:=(show ∃ t,u=Value.bytes b t from r);cases e;rfl
 | flt b=>obtain ⟨t,e⟩:=(show ∃ t,u=Value.float b t from r);cases e;rfl
 | ref a=>cases (show u=Value.ref a from r);rfl
 | ty n=>cases (show u=Value.type n from r);rfl
section
variable {P:aN} {a:Addr} {fs fs':List (Str × V)}
theorem Oi (hok:HOk P w H h) (e:H a=some (.ins C dx fs)):∃ mA,Xp h a dx C mA/\(∀ f,tM (fs.lookup f) (mA f))/\S5 mA (fs.map (·.1))/\fs.length<=1000/\H dx=some (.own a):=by
 obtain ⟨d,z,ne,ob,mA,n,r,q⟩:=(show eG P w H h a (.ins C dx fs) from hok a _ e)
 exact ⟨mA,⟨ob,n,ne⟩,r,q,z,d⟩
end
structure Cls (K:bh) (C:Addr):Prop where
 pg:Bj K C Vu=true
 hd:Gg K C=true
 po:MF K C=true
 sa:jB K (.ref C) "__setattr__" = some (some (.builtin "object.__setattr__"))
theorem Cls.get {K:bh} (c:Cls K C) (f:Str):Bj K C f=true:=c.pg
noncomputable def cN (K:bh) (C:Addr) (f:Str):Prop:=jB K (.ref C) f=some none
theorem cN.taker {K:bh} {f:Str} (n:cN K C f):Ur K C f=some none:=by
 unfold Ur
 rw [show jB K (.ref C) f=some none from n]
 rfl
structure Con (K:bh) (C:Addr) (f:Str) (v:V) (u:Value):Prop where
 at_:jB K (.ref C) f=some (some u)
 rel:RelV v u
 get:Uq K u "__get__" = some none
 cp:PySem.W.copiedNames.contains f=false
structure Meth (K:bh) (C:Addr) (m:Str) (f:Addr):Prop where
 at_:jB K (.ref C) m=some (some (.ref f))
 fn:Gj K (.ref f)=true
 kp:pR K (.ref f)=true
section
variable {a:Addr} {fs:List (Str × V)} {f:Str}
theorem Xq {b:Bool} (I:Inv X pins σ H s) (e:H a=some (.ins C dx fs)) (c:Cls X.K C) (n:cN X.K C f) (l:fs.lookup f=some v)
  (h:∀ u s',Inv X pins σ H s'->RelV v u->Q u s'):wpAny (model X.prog X.w) A (getAttr (.ref a) f b) Q E s:=by
 obtain ⟨mA,O,r,_,_,_⟩:=Oi I.hok e
 obtain ⟨u,hu,ru⟩:=tM.some_of (v:=v) (o:=mA f) (by rw [<- l];exact r f)
 exact get_map I.kIn O (c.get f) c.hd n hu (aal ru) (h u _ (I.tok _) ru)
theorem Xr {g:Addr} {Q:Value × List Value->Shared->Prop} (I:Inv X pins σ H s) (e:H a=some (.ins C dx fs)) (c:Cls X.K C) (k:Meth X.K C m g) (l:fs.lookup m=none)
  (h:Q (.ref g,[.ref a]) s):wpAny (model X.prog X.w) A (Tn (.ref a) m pl) Q E s:=by
 obtain ⟨mA,O,r,_,_,_⟩:=Oi I.hok e
 have hn:mA m=none:=tM.none_of (by rw [<- l];exact r m)
 exact ael I.kIn O (c.get m) k.at_ k.fn hn h
theorem Xu {Q:Unit->Shared->Prop} (I:Inv X pins σ H s) (e:H a=some (.ins C dx fs)) (c:Cls X.K C) (n:cN X.K C f) (hl:fs.length<1000) (ry:RelV y u)
  (h:∀ s',Inv X pins σ (upd H a (.ins C dx (bU f y fs))) s'->Q () s'):wpAny (model X.prog X.w) A (setAttr (.ref a) f u) Q E s:=by
 obtain ⟨mA,O,r,wi,_,ho⟩:=Oi I.hok e
 have hz:(fs.map (·.1)).length<=sizeLine:=by rw [bA,Lp];lia
 refine ags I.kIn O c.sa c.po n.taker c.hd wi hz fun h' O' sb=>h _ ?_
 have hd:∃ o,h'.get? dx=some o:=let ⟨o,_,_,e',_⟩:=O'.ns;⟨o,e'⟩
 refine I.write (x:=a) (e:=dx) (by rw [e];exact True.intro) (.inr ho) (fun b q hb z=>(sb.2 b hb).trans z) hd ?_
 refine ⟨by rw [au O.ne];exact ho,?_,O.ne,O'.obj,_,O'.ns,fun g=>?_,fun g hg=>?_⟩
 ·have:=Dg f y fs;lia
 ·show tM ((bU f y fs).lookup g) (if g=f then some u else mA g)
  rw [Df]
  by_cases q:g=f
  ·rw [if_pos q,if_pos q];exact ry
  ·rw [if_neg q,if_neg q];exact r g
 ·by_cases q:g=f
  ·rw [q];exact (Ci f y fs).1
  ·refine (Ci f y fs).2 g (wi g fun z=>hg ?_)
   show (if g=f then some u else mA g)=none
   rw [if_neg q];exact z
theorem Inv.made (I:Inv X pins σ H s):Inv X pins σ (upd (upd H s.heap.objs.size (.own (s.heap.objs.size+1))) (s.heap.objs.size+1) (.ins C s.heap.objs.size []))
  { s with heap:=(s.heap.push yP).push (uh C s.heap.objs.size) }:=by
 have e1:(s.heap.push yP).get? s.heap.objs.size=some yP:=eE s.heap rfl
 have e2:((s.heap.push yP).push (uh C s.heap.objs.size)).get? (s.heap.objs.size+1)=some (uh C s.heap.objs.size):=by
  have:=eE (s.heap.push yP) (o:=uh C s.heap.objs.size) rfl
  rwa [qU] at this
 have e3:(s.heap.push yP).Ns s.heap.objs.size (fun _=>none):=⟨yP,#[],_,e1,rfl,(fun e he=>absurd he (by simp)),fun _=>rfl⟩
 have I1:=I.laid (a:=s.heap.objs.size) (o:=.own (s.heap.objs.size+1)) (h':=s.heap.push yP) (t':=s.toks) (fun b u q=>dR _ q) (bV _) ⟨_,e1⟩
 refine I1.laid (a:=s.heap.objs.size+1) (o:=.ins C s.heap.objs.size []) (t':=s.toks) (fun b u q=>dR _ q) (M6 (qU _ _)) ?_
 have ne:s.heap.objs.size≠s.heap.objs.size+1:=cO (xK _)
 refine ⟨by rw [au ne,aj],cB _,ne,e2,fun _=>none,(ajw e3).at fun o q=>dR _ q,fun _=>True.intro,fun y hy=>absurd rfl hy⟩
theorem agt {env:Env} {f:Str} {pos:Pos} (hb:wK e f env (eval e env)=eval e env)
  (h:wpAny (model prog w) A (eval e env) (fun o s₁=>wpAny (model prog w) A (getAttr o f true) Q E s₁) E s):wpAny (model prog w) A (eval (.Attribute e f pos) env) Q E s :=
 Attribute_any_ h (by rw [arm_eval_Attribute,hb])
end
noncomputable def rFld (K:bh) (f:Str) (x:V) (H1:Hp) (Q:VK):Prop:=∃ a C dx fs v,x = .ref a/\H1 a=some (.ins C dx fs)/\Cls K C/\cN K C f/\fs.lookup f=some v/\Q v H1
@[reducible] noncomputable def tFld (K:bh) (ta:TE) (f:Str):TE:=fun σ H Q=>ta σ H fun x H1=>rFld K f x H1 Q
noncomputable def sFld (K:bh) (ta tv:TE) (f:Str):TS:=fun D σ H=>tv σ H fun y H1=>ta σ H1 fun x H2=>∃ a C dx fs,x = .ref a/\H2 a=some (.ins C dx fs)/\Cls K C/\cN K C f/\fs.length<1000 /\
 D.nx σ (upd H2 a (.ins C dx (bU f y fs)))
section
variable {o value:Expr} {f:Str} {pos:Pos} {tv:TE}
theorem aC (he:PE X e ta) (hb:wK e f X.env (eval e X.env)=eval e X.env):PE X (.Attribute e f pos) (tFld X.K ta f):=by
 walk_at "k"
 refine agt hb (thn (he pins s σ H _ I h) fun u s1 ⟨x,H1,I1,rx,a,C,dx,fs,v,ex,ea,c,n,l,q⟩=>?_)
 subst ex
 obtain rfl:u=Value.ref a:=rx
 exact Xq I1 ea c n l fun u' s2 I2 ru=>⟨v,H1,I2,ru,q⟩
theorem aU (ha:PE X o ta) (hv:PE X value tv) (hs:LQ value (some (.Attribute o f pos')) pos.line X.env=pure false):PS X (.Assign [.Attribute o f pos'] value pos) (sFld X.K ta tv f):=by
 intro pins s σ H D I h
 refine plainObj_wpAny_Assign_Attribute (thn (hv pins s σ H _ I h) fun u s1 ⟨y,H1,I1,ry,q⟩=>thn (ha pins s1 σ H1 _ I1 q) fun ov s2 ⟨x,H2,I2,rx,a,C,dx,fs,ex,ea,c,n,l,q2⟩=>?_) hs
 subst ex
 obtain rfl:ov=Value.ref a:=rx
 exact Xu I2 ea c n l ry fun s3 I3=>⟨σ,_,I3,q2⟩
end
section
variable {c:Value} {b:Bool}
inductive Hf (K:bh) (H:Hp):V->Value->Prop where
 | non:Hf K H .non (.type "NoneType")
 | bl (x:Bool):Hf K H (.bl x) (.type "bool")
 | int (i:Int):Hf K H (.int i) (.type "int")
 | str (x:Str):Hf K H (.str x) (.type "str")
 | flt (x:UInt64):Hf K H (.flt x) (.type "float")
 | lst {a:Addr} {xs:List V} (e:H a=some (.lst xs)):Hf K H (.ref a) (.type "list")
 | frz {a:Addr} {o:Obj} {xs:List V} (e:H a=some (.frz o (.lst xs))):Hf K H (.ref a) (.type "list")
 | tup {a:Addr} {xs:List V} (e:H a=some (.tup xs)):Hf K H (.ref a) (.type "tuple")
 | dK {a:Addr} {kvs:List (Key × V)} (e:H a=some (.dK kvs)):Hf K H (.ref a) (.type "dict")
 | dT {a:Addr} {kvs:List (List Key × V)} (e:H a=some (.dT kvs)):Hf K H (.ref a) (.type "dict")
 | ins {a C dx:Addr} {fs:List (Str × V)} (e:H a=some (.ins C dx fs)) (cl:Cls K C) (ha:jB K (.ref C) "__class__" = some (some (.builtin "object.__class__")))
   (hn:Uq K (.builtin "object.__class__") "__get__" = some (some (.builtin "getset_descriptor.__get__"))) (htk:acA K (.builtin "object.__class__")=some true)
   (hm:Bk K C (.type "object")=some true):Hf K H (.ref a) (.ref C)
end
structure jK (k:Nat) (A:bC):Prop where
 hd:A.handled=none
 dp:A.depth+3*k+5<recursionLimit
 un:A.units+16*k+200<cLine
theorem jK.mono {j:Nat} (r:jK k A) (h:j<=k):jK j A:=⟨r.hd,by have:=r.dp;lia,by have:=r.un;lia⟩
theorem jK.deeper (r:jK (k+1) A) (env:Env):jK k (A.deeper env) :=
 ⟨r.hd,by have:=r.dp;show A.depth+1+3*k+5<_;lia,by have:=r.un;show A.units+3+16*k+200<_;lia⟩
theorem jK.in1 (r:jK (k+1) A):jK k A.in1 :=
 ⟨r.hd,by have:=r.dp;show A.depth+3*k+5<_;lia,by have:=r.un;show A.units+1+16*k+200<_;lia⟩
theorem Xv :(A.under (.builtin "type.__call__" ⟨.ref C::us,kw⟩)).depth=A.depth+1:=by
 first | rfl | simp [Vm,Code.weight,Code.isCreation,Code.isGuard,Code.isCaller,adV,Vz,guardIds]
theorem Xw :(A.under (.builtin "type.__call__" ⟨.ref C::us,kw⟩)).units=A.units+1:=by
 first | rfl | simp [Vm,Code.cUnits,adV,Vz]
theorem jK.make (r:jK (k+1) A) (C:Addr) (us:List Value) (kw:List (Str × Value)):jK k (A.under (.builtin "type.__call__" ⟨.ref C::us,kw⟩)) :=
 ⟨r.hd,by have:=r.dp;rw [Xv];lia,by have:=r.un;rw [Xw];lia⟩
theorem jK.depth (r:jK k A):A.depth<recursionLimit:=by have:=r.dp;lia
theorem jK.units (r:jK k A):A.units+64<cLine:=by have:=r.un;lia
@[reducible] noncomputable def aen:TA:=fun _ H Q=>Q [] H
@[reducible] noncomputable def Dh (ta:TE) (tr:TA):TA:=fun σ H Q=>ta σ H fun x H1=>tr σ H1 fun xs H2=>Q (x::xs) H2
section
variable {pos:Pos}
theorem aB:PA X [] aen:=fun _ _ _ _ H Q I h=>xV ⟨[],H,I,.nil,h⟩
theorem ao (ha:PE X e te) (hr:PA X es t) (hs:dM (e::es) X.env=(false,eval e X.env)::dM es X.env:=by rfl):PA X (e::es) (Dh te t):=by
 intro pos pins s σ H Q I h
 rw [hs]
 show wpAny _ _ (spliced ((false,eval e X.env)::iI pos (dM es X.env))) _ _ s
 refine uE (thn (ha pins s σ H _ I h) fun u s1 ⟨x,H1,I1,r1,q1⟩=>?_)
 exact thn (hr pos pins s1 σ H1 _ I1 q1) fun us s2 ⟨xs,H2,I2,r2,q2⟩=>⟨x::xs,H2,I2,.cons r1 r2,q2⟩
noncomputable def tTup (t:TA):TE:=fun σ H Q=>t σ H fun xs H1=>xs.length<=sizeLine/\∀ p,H1 p=none->Q (.ref p) (upd H1 p (.tup xs))
noncomputable def tLst (t:TA):TE:=fun σ H Q=>t σ H fun xs H1=>xs.length<=sizeLine/\∀ p,H1 p=none->Q (.ref p) (upd H1 p (.lst xs))
theorem xZ {x1} (h:PA X es t):PE X (.Tuple es x1 pos) (tTup t):=by
 intro pins s σ H Q I hq
 refine wpAny_Tuple_spliced (thn (h pos pins s σ H _ I hq) fun us s1 ⟨xs,H1,I1,r,z,q⟩=>⟨by rw [<- r.length];exact z,?_⟩)
 have hf:H1 s1.heap.objs.size=none:=I1.hok.fresh (bV _)
 refine ⟨.ref s1.heap.objs.size,upd H1 s1.heap.objs.size (.tup xs),I1.laid (t':=s1.toks) (fun b u e=>dR _ e) (bV _) ?_,rfl,q _ hf⟩
 exact ⟨z,us,r,⟨_,eE _ rfl,rfl,_,rfl⟩⟩
theorem gG (h:PA X es t):PE X (.List es pos) (tLst t):=by
 intro pins s σ H Q I hq
 refine wpAny_List_spliced (thn (h pos pins s σ H _ I hq) fun us s1 ⟨xs,H1,I1,r,z,q⟩=>⟨by rw [<- r.length];exact z,?_⟩)
 have hf:H1 s1.heap.objs.size=none:=I1.hok.fresh (bV _)
 refine ⟨.ref s1.heap.objs.size,upd H1 s1.heap.objs.size (.lst xs),I1.laid (t':=s1.toks) (fun b u e=>dR _ e) (bV _) ?_,rfl,q _ hf⟩
 exact ⟨z,us,0,r,eE _ rfl⟩
end
noncomputable abbrev Sp:=List V->Hp->VK->XK->Prop
variable {sp:Sp}
noncomputable abbrev CXT:=List Env->Hp->Shared->XK->Value->Shared->Prop
variable {CX:CXT}
structure Jp (P:aN) (w:World) (K:bh) (mg:Str->Option Value) (base:Heap) (A:bC) (outer:List Env) (s:Shared) (H:Hp):Prop where
 frames:A.frames=some outer
 mod:Mod K mg base
 bs:∀ b o,base.get? b=some o->s.heap.get? b=some o/\H b=none
 bsz:base.objs.size<=s.heap.objs.size
 BX:s.heap.FunFrames base outer
 frf:∀ b∈frs outer,H b=none
 hok:HOk P w H s.heap
 bare:qY s.gens
noncomputable def CE (outer:List Env) (P:aN) (w:World) (H:Hp) (s:Shared) (Q:VK) (u:Value) (s':Shared):Prop :=
 ∃ v H',s'.os=s.os/\qY s'.gens/\Un (frs outer) [] H H' s.heap s'.heap/\HOk P w H' s'.heap/\RelV v u/\Q v H'
noncomputable def CR (CX:CXT) (outer:List Env) (P:aN) (w:World) (H:Hp) (s:Shared) (Q:VK) (E:XK) (r:j6) (s':Shared):Prop :=
 match r with
 | .ok (.ret u)=>CE outer P w H s Q u s'
 | .ok _=>False
 | .error e=>CX outer H s E e s'
structure cY (P:aN) (w:World) (K:bh) (mg:Str->Option Value) (base:Heap) (CX:CXT) (k:Nat) (f:Addr) (fd:FuncData) (ps:List Str) (sp:Sp):Prop where
 len:∀ vs H Q E,sp vs H Q E->vs.length=ps.length
 run:∀ (A:bC) (outer:List Env) (s:Shared) (H:Hp) (args:Args) (us:List Value) (vs:List V) (Q:VK) (E:XK),jK k A->Jp P w K mg base A outer s H->Az s fd args (ps.zip us)->Vals vs us->sp vs H Q E ->
  gj (model P w) A (.call (.ref f) args) (CR CX outer P w H s Q E) s
theorem cY.imp {P:aN} {K:bh} {f:Addr} {sp':Sp} (F:cY P w K mg base CX k f fd ps sp)
  (h:∀ vs H Q E,sp' vs H Q E->sp vs H Q E):cY P w K mg base CX k f fd ps sp' :=
 ⟨fun vs H Q E q=>F.len vs H Q E (h _ _ _ _ q),fun A outer s H args us vs Q E hr he hb hv hs=>F.run A outer s H args us vs Q E hr he hb hv (h _ _ _ _ hs)⟩
theorem Jp.make {P:aN} {K:bh} (e:Jp P w K mg base A outer s H) (C:Addr) (us:List Value) (kw:List (Str × Value)) :
  Jp P w K mg base (A.under (.builtin "type.__call__" ⟨.ref C::us,kw⟩)) outer s H:=⟨by first | exact e.frames | (simpa [Vm,Code.envs,Vz,pushEnvs] using e.frames),e.mod,e.bs,e.bsz,e.BX,e.frf,e.hok,e.bare⟩
theorem Jp.in1 {P:aN} {K:bh} (e:Jp P w K mg base A outer s H) :
  Jp P w K mg base A.in1 outer s H:=⟨e.frames,e.mod,e.bs,e.bsz,e.BX,e.frf,e.hok,e.bare⟩
theorem Inv.env0 (I:Inv X pins σ H s):Jp X.prog X.w X.K X.mg X.base X.A X.stack s H :=
 ⟨I.ok.frames,I.ok.mod,I.bs,iC I.ok.bsz I.sz,I.stack,I.Ep,I.hok,I.bare⟩
theorem Inv.after {Q:VK} (I:Inv X pins σ H s) (h:CE X.stack X.prog X.w H s Q u s'):EP X pins σ Q u s':=by
 obtain ⟨v,H',os,bare,un,hok,r,q⟩:=h
 obtain ⟨hh,g,d,t,os'⟩:=s'
 obtain rfl:os'=s.os:=os
 exact ⟨v,H',I.call (h':=hh) (g':=g) (d':=d) (t':=t) (ch:=[]) un hok bare (fun b z=>absurd z (by simp)),r,q⟩
@[reducible] noncomputable def aeo (sp:Sp) (dvs:List V) (E:XK) (t:TA):TE:=fun σ H Q=>t σ H fun vs H1=>sp (vs++dvs) H1 Q E
@[reducible] noncomputable def tMeth (C:Addr) (m:Str) (sp:Sp) (dvs:List V) (E:XK) (ta:TE) (t:TA):TE:=fun σ H Q=>ta σ H fun x H1=>∃ a dx fs,x = .ref a/\H1 a=some (.ins C dx fs)/\fs.lookup m=none /\
 t σ H1 fun vs H2=>sp (x::(vs++dvs)) H2 Q E
noncomputable def aep (C:Addr) (sp:Sp) (dvs:List V) (E:XK) (t:TA):TE:=fun σ H Q=>t σ H fun vs H1=>∀ x dx,H1 x=none->H1 dx=none->dx≠x ->
 sp (.ref x::(vs++dvs)) (upd (upd H1 dx (.own x)) x (.ins C dx [])) (fun v H2=>v = .non/\Q (.ref x) H2) E
noncomputable def Binds (K:bh) (fd:FuncData) (ps:List Str) (ds:List Value):Prop :=
 ∀ (s:Shared) (us:List Value),K.In s.heap->(us++ds).length=ps.length->Az s fd ⟨us,[]⟩ (ps.zip (us++ds))
theorem Binds.all {K:bh} (h:∀ us:List Value,us.length=ps.length->wL fd ⟨us,[]⟩=pure (ps.zip us)):Binds K fd ps []:=fun s us _ hl=>by
 rw [xg] at hl ⊢
 exact .of_eq (h us hl)
noncomputable def Passes (CX:CXT) (X:Cx) (E:XK):Prop:=∀ (pins:List (Addr × Obj)) (σ:St) (H:Hp) (s:Shared) (e:Value) (s':Shared),Inv X pins σ H s->CX X.stack H s E e s'->X.xe e s'
section
variable {f:Addr} {dvs:List V} {ds:List Value} {E:XK} {pos apos:Pos} {o:Expr}
theorem Xx {Q:VK} (F:cY X.prog X.w X.K X.mg X.base CX k f fd ps sp) (hr:jK k X.A) (hb:Binds X.K fd ps ds) (hd:Vals dvs ds) (hx:Passes CX X E)
  (I:Inv X pins σ H s) (r:Vals vs us) (h:sp (vs++dvs) H Q E):wpAny (model X.prog X.w) X.A (call (.ref f) us) (EP X pins σ Q) X.xe s:=by
 have r2:Vals (vs++dvs) (us++ds):=r.append hd
 have hl:(us++ds).length=ps.length:=by rw [<- r2.length];exact F.len _ _ _ _ h
 refine Lx (tR (F.run X.A X.stack s H ⟨us,[]⟩ (us++ds) (vs++dvs) Q E hr I.env0 (hb s us I.kIn hl) r2 h) fun r s' hq=>?_)
 cases r with
 | error e=>exact hx pins σ H s e s' I hq
 | ok fl =>
  cases fl with
  | ret u=>exact I.after hq
  | next=>exact iZ hq
  | brk=>exact iZ hq
  | cont=>exact iZ hq
theorem bB (F:cY X.prog X.w X.K X.mg X.base CX k f fd ps sp) (hr:jK k X.A) (hg:Gl X x) (hm:X.mg x=some (.ref f)) (hk:pR X.K (.ref f)=true) (hb:Binds X.K fd ps ds) (hd:Vals dvs ds) (hx:Passes CX X E)
  (ha:PA X (e::es) t) (hdb:(x == ("__debug__" : Str))=false:=by decide) (he:dM (e::es) X.env=(false,eval e X.env)::dM es X.env:=by rfl) (hpl:(iI pos (dM es X.env)).any (·.1)=false:=by rfl) :
  PE X (.Call (.Name x p) (e::es) [] pos) (aeo sp dvs E t):=by
 walk_at "k"
 refine tQ (yX I hg hm ?_ hdb)
 refine Um (h₀:=X.base) I.ok.mod.kin hk (thn (ha pos pins s σ H _ I h) fun us s1 ⟨vs,H1,I1,r,q⟩=>⟨I1.kIn,?_⟩) he hpl
 exact Xx F hr hb hd hx I1 r q
theorem aer (F:cY X.prog X.w X.K X.mg X.base CX k f fd ps sp) (hr:jK k X.A) (hg:Gl X x) (hm:X.mg x=some (.ref f)) (hk:pR X.K (.ref f)=true) (hb:Binds X.K fd ps ds) (hd:Vals dvs ds) (hx:Passes CX X E)
  (hdb:(x == ("__debug__" : Str))=false:=by decide):PE X (.Call (.Name x p) [] [] pos) (aeo sp dvs E aen):=by
 walk_at "k"
 refine tQ (yX I hg hm ?_ hdb)
 exact PySem.W.callWith_K0 I.kIn hk (Xx (us:=[]) F hr hb hd hx I .nil h)
theorem dW (he:PE X o ta) (c:Cls X.K C) (hm:Meth X.K C m f) (F:cY X.prog X.w X.K X.mg X.base CX k f fd ps sp) (hr:jK k X.A) (hb:Binds X.K fd ps ds) (hd:Vals dvs ds) (hx:Passes CX X E) (ha:PA X (e::es) t)
  (hst:dM (e::es) X.env=(false,eval e X.env)::dM es X.env:=by rfl) (hpl:(iI pos (dM es X.env)).any (·.1)=false:=by rfl)
  (ht:eval (.Call (.Attribute o m apos) (e::es) [] pos) X.env=(do
   let ov <- eval o X.env
   standAt apos.atName
   let (f,first) <- wO [ov] (Tn ov m pl)
   callWith pos f first (iI pos (dM (e::es) X.env)) (Mf pos (Lq [] X.env))):=by rfl) :
  PE X (.Call (.Attribute o m apos) (e::es) [] pos) (tMeth C m sp dvs E ta t):=by
 walk_at "k"
 refine PySem.W.methodCall_KW (pl:=pl) (thn (he pins s σ H _ I h) fun u s1 ⟨x,H1,I1,rx,a,dx,fs,ex,ea,l,q⟩=>?_) ht
 subst ex
 obtain rfl:u=Value.ref a:=rx
 refine Xr I1 ea c hm l ?_
 refine Um (first:=[.ref a]) (h₀:=X.base) I.ok.mod.kin hm.kp (thn (ha pos pins s1 σ H1 _ I1 q) fun us s2 ⟨vs,H2,I2,r,q2⟩=>⟨I2.kIn,?_⟩) hst hpl
 exact Xx (us:=.ref a::us) (vs:=.ref a::vs) F hr hb hd hx I2 (.cons rfl r) q2
structure Mk (K:bh) (C f:Addr):Prop where
 makes:MJ K C=true
 init:jB K (.ref C) "__init__" = some (some (.ref f))
 fn:Gj K (.ref f)=true
 kp:pR K (.ref C)=true
theorem aes {Q:VK} (M:Mk X.K C f) (F:cY X.prog X.w X.K X.mg X.base CX k f fd ps sp) (hr:jK (k+1) X.A) (hb:Binds X.K fd ps ds) (hd:Vals dvs ds)
  (hx:Passes CX X E) (I:Inv X pins σ H s) (r:Vals vs us)
  (h:∀ x dx,H x=none->H dx=none->dx≠x->sp (.ref x::(vs++dvs)) (upd (upd H dx (.own x)) x (.ins C dx [])) (fun v H2=>v = .non/\Q (.ref x) H2) E) :
  wpAny (model X.prog X.w) X.A (call (.ref C) us) (EP X pins σ Q) X.xe s:=by
 have hq:=h (s.heap.objs.size+1) s.heap.objs.size (I.hok.fresh (m9 _)) (I.hok.fresh (bV _)) (cO (xK _))
 have I2:=Inv.made (C:=C) I
 have r2:Vals (V.ref (s.heap.objs.size+1)::(vs++dvs)) (Value.ref (s.heap.objs.size+1)::(us++ds)):=.cons rfl (r.append hd)
 have hl:(Value.ref (s.heap.objs.size+1)::us++ds).length=ps.length:=by
  have e:=r2.length
  rw [F.len _ _ _ _ hq] at e
  exact e.symm
 refine Lx (aem (f:=f) I.kIn M.makes M.init (beq_iff_eq.mp M.fn) (tR (F.run _ X.stack _ _ ⟨Value.ref (s.heap.objs.size+1)::us,[]⟩ (Value.ref (s.heap.objs.size+1)::(us++ds)) _ _ E (hr.make C us [])
  (I2.env0.make C us []) (hb _ (Value.ref (s.heap.objs.size+1)::us) I2.kIn hl) r2 hq) fun r s' hq'=>?_))
 cases r with
 | error e=>exact hx pins σ _ _ e s' I2 hq'
 | ok fl =>
  cases fl with
  | ret u =>
   obtain ⟨v,H',I3,rv,ev,q3⟩:=I2.after hq'
   subst ev
   exact ⟨rv,⟨V.ref (s.heap.objs.size+1),H',I3,rfl,q3⟩⟩
  | next=>exact iZ hq'
  | brk=>exact iZ hq'
  | cont=>exact iZ hq'
theorem iH (M:Mk X.K C f) (F:cY X.prog X.w X.K X.mg X.base CX k f fd ps sp) (hr:jK (k+1) X.A) (hg:Gl X x) (hm:X.mg x=some (.ref C)) (hb:Binds X.K fd ps ds) (hd:Vals dvs ds) (hx:Passes CX X E)
  (ha:PA X (e::es) t) (hdb:(x == ("__debug__" : Str))=false:=by decide) (he:dM (e::es) X.env=(false,eval e X.env)::dM es X.env:=by rfl) (hpl:(iI pos (dM es X.env)).any (·.1)=false:=by rfl) :
  PE X (.Call (.Name x p) (e::es) [] pos) (aep C sp dvs E t):=by
 walk_at "k"
 refine tQ (yX I hg hm ?_ hdb)
 refine Um (h₀:=X.base) I.ok.mod.kin M.kp (thn (ha pos pins s σ H _ I h) fun us s1 ⟨vs,H1,I1,r,q⟩=>⟨I1.kIn,?_⟩) he hpl
 exact aes M F hr hb hd hx I1 r q
end
section
variable {f:Addr} {ks:List Str} {E:XK} {pos apos kpos:Pos} {o:Expr} {kws:List wQ} {tk:TA} {nm:Option Str}
structure KBinds (K:bh) (fd:FuncData) (ps ks:List Str) (g:List Value->List Value->List Value) (gV:List V->List V->List V):Prop where
 to:∀ (s:Shared) (us ws:List Value),K.In s.heap->(g us ws).length=ps.length->Az s fd ⟨us,ks.zip ws⟩ (ps.zip (g us ws))
 rel:∀ {vs:List V} {us:List Value} {zs:List V} {ws:List Value},Vals vs us->Vals zs ws->Vals (gV vs zs) (g us ws)
variable {g:List Value->List Value->List Value} {gV:List V->List V->List V}
end
structure aO (N P:List Str) (sc:Scope):Prop where
 kind:sc.kind = .function
 co:sc.isCoroutine=false
 gen:sc.isGenerator=false
 nd:N.Nodup
 pre:N.take P.length=P
 par:∀ x∈P,sc.names.lookup x=some .local\/sc.names.lookup x=some .cell
 ajK:∀ y∈sc.names,y.2 ≠ .free
theorem JZ :∀ {binds:List (Str × Value)} {m:Str->Option Value},(∀ v,(x,v)∉binds)->bindL kindOf binds m x=m x
 | [],_,_=>rfl
 | (n,v)::r,m,h=>by
  unfold bindL
  rw [JZ fun w hw=>h w (gk _ hw)]
  split
  ·have:x≠n:=by rintro rfl;exact h v cZ
   simp [this]
  ·rfl
theorem J0 :∀ {binds:List (Str × Value)} {m:Str->Option Value},(∀ v,(x,v)∉binds)->bindC kindOf binds m x=m x
 | [],_,_=>rfl
 | (n,v)::r,m,h=>by
  unfold bindC
  rw [J0 fun w hw=>h w (gk _ hw)]
  split
  ·rfl
  ·have:x≠n:=by rintro rfl;exact h v cZ
   simp [this]
theorem J8 {v:Value}:∀ {P:List Str} {vs:List Value} {i:Nat} {m:Str->Option Value},P.Nodup->P[i]? = some x->vs[i]? = some v->kindOf x=some .local ->
  bindL kindOf (P.zip vs) m x=some v
 | [],_,_,_,_,h,_,_=>by simp at h
 | _::_,[],_,_,_,_,h,_=>by simp at h
 | p::P,w::vs,0,m,nd,h1,h2,hk=>by
  simp at h1 h2;subst h1;subst h2
  show bindL kindOf ((p,w)::P.zip vs) m p=_
  unfold bindL
  rw [JZ fun v hv=>(jT.mp nd).1 (Gd hv).1,if_pos hk]
  simp
 | p::P,w::vs,i+1,m,nd,h1,h2,hk=>by
  show bindL kindOf ((p,w)::P.zip vs) m x=_
  unfold bindL
  exact J8 (i:=i) (jT.mp nd).2 (by simpa using h1) (by simpa using h2) hk
theorem J9 {v:Value}:∀ {P:List Str} {vs:List Value} {i:Nat} {m:Str->Option Value},P.Nodup->P[i]? = some x->vs[i]? = some v->kindOf x≠some .local ->
  bindC kindOf (P.zip vs) m x=some v
 | [],_,_,_,_,h,_,_=>by simp at h
 | _::_,[],_,_,_,_,h,_=>by simp at h
 | p::P,w::vs,0,m,nd,h1,h2,hk=>by
  simp at h1 h2;subst h1;subst h2
  show bindC kindOf ((p,w)::P.zip vs) m p=_
  unfold bindC
  rw [J0 fun v hv=>(jT.mp nd).1 (Gd hv).1,if_neg hk]
  simp
 | p::P,w::vs,i+1,m,nd,h1,h2,hk=>by
  show bindC kindOf ((p,w)::P.zip vs) m x=_
  unfold bindC
  exact J9 (i:=i) (jT.mp nd).2 (by simpa using h1) (by simpa using h2) hk
noncomputable def start (N:List Str) (vs:List V):St:=vs.map some++Ge (N.length-vs.length) none
noncomputable def zc (CX:CXT) (P:aN) (w:World) (K:bh) (mg:Str->Option Value) (base:Heap) (N:List Str) (qual:Str) (scope:Scope) (f:Addr) (cd:Value) (A:bC) (outer:List Env) (s:Shared) (H:Hp) (E:XK):Cx where
 prog:=P
 w:=w
 K:=K
 mg:=mg
 base:=base
 A:=A.deeper (j8 qual scope s.heap.objs.size f cd)
 N:=N
 s₀:=s
 H₀:=H
 env:=j8 qual scope s.heap.objs.size f cd
 outer:=outer
 stack:=j8 qual scope s.heap.objs.size f cd::outer
 ex:=[]
 calm:=true
 fn:=fun _=>true
 pn:=[]
 xe:=fun e s'=>wpAny (model P w) (A.deeper (j8 qual scope s.heap.objs.size f cd)) (leaving (j8 qual scope s.heap.objs.size f cd) e) (fun _ s''=>CX outer H s E e s'') (fun e' s''=>CX outer H s E e' s'') s'
theorem QC {sc:Scope} (h:sc.names.lookup x=some .cell):∃ c,(Tp n sc.names []).lookup x=some c:=by
 have q:=acq sc.names n [] (.inl h)
 exact adB.mp q
theorem aam {P:aN} {K:bh} {f:Addr} {cd:Value} {s1:Shared} {E:XK} 
  (S:aO N ps scope) (hd:A.handled=none) (e0:Jp P w K mg base A outer s H) (hl:vs.length=ps.length) (r:Vals vs us)
  (x:InCallC s s.heap.objs.size (bindL (j8 qual scope s.heap.objs.size f cd).kindOf (ps.zip us) fun _=>none) (Tp (s.heap.objs.size+1) scope.names []) (bindC (j8 qual scope s.heap.objs.size f cd).kindOf (ps.zip us) fun _=>none) s1) :
  Inv (zc CX P w K mg base N qual scope f cd A outer s H E) [] (start N vs) H s1:=by
 have hpl:ps.length<=N.length:=by have:=congrArg jG S.pre;rw [gJ] at this;lia
 obtain ⟨h1,tk,rfl,hk⟩:=x.done
 have noA:∀ b:Addr,b∉(zc CX P w K mg base N qual scope f cd A outer s H E).ex:=fun b z=>absurd (show b∈([]:List Addr) from z) (by simp)
 refine ⟨⟨e0.mod,S.kind,rfl,rfl,bV _,fun y z c h1 h2=>?_,fun y hy=>?_,fun y c _ h=>?_,fun _=>hd,Around.frames_deeper e0.frames,.inr ⟨rfl,rfl⟩,fun b z=>absurd z (noA b),e0.bs,e0.bsz,fun b _ _=>noA b,fun b z=>absurd z (noA b),e0.BX,e0.frf⟩,
  rfl,e0.bare,Un.kept hk,⟨_,x.toInCall.ns,fun i y v h1 h2 h3=>?_⟩,fun y c h=>⟨_,x.cell y c h⟩,e0.hok.fresh (bV _),fun y c h=>?_,fun p hp=>absurd (show p∈([]:List (Addr × Obj)) from hp) (by simp),e0.hok.kept hk,?_⟩
 ·exact name_of_addr x.apart (Ak h1) (Ak h2)
 ·have hy:scope.names.lookup y=some .cell\/scope.names.lookup y=some .free:=hy
  rcases hy with hy | hy
  ·exact QC hy
  ·exact absurd rfl (S.ajK _ (Ak hy))
 ·exact mH (x.above y c (Ak h))
 ·have hi:i<vs.length:=by
   unfold start at h2
   by_cases hi:i<vs.length
   ·exact hi
   ·rw [yL (by simpa using hi)] at h2
    rw [abQ] at h2
    split at h2 <;> cases h2
  have ha:vs[i]? = some v:=by
   unfold start at h2
   rw [FN (by simpa using hi),iB] at h2
   cases e:vs[i]? with
   | none=>rw [e] at h2;cases h2
   | some a=>rw [e] at h2;cases h2;rfl
  obtain ⟨u,hu,rv⟩:=r.get ha
  have hp:ps[i]? = some y:=by
   rw [<- S.pre,List.getElem?_take_of_lt tb_g%];exact h1
  have ndP:ps.Nodup:=by rw [<- S.pre];exact S.nd.sublist (T6 _ _)
  refine ⟨u,rv,?_⟩
  rcases S.par y (List.mem_of_getElem? hp) with k | k
  ·exact .inl ⟨k,J8 ndP hp hu k⟩
  ·obtain ⟨c,e⟩:=QC (n:=s.heap.objs.size+1) k
   refine .inr ⟨.inl k,c,e,?_⟩
   have q:=x.cell y c e
   rw [J9 ndP hp hu (by show scope.names.lookup y≠_;rw [k];decide)] at q
   exact q
 ·exact e0.hok.fresh (mH (x.above y c (Ak h)))
 ·unfold start
  show _=N.length
  rw [dh,bA,Bd]
  lia
theorem ahL {P:aN} {K:bh} {f:Addr} {params:Arguments} {dV kV doc pm cdv ct oc:Value} {an od:Option Addr}
  {osl:Array (Option Value)} {N ps:List Str} {sp:Sp} (lk:K.lookup f=some ⟨oc,od,.func (j7 name qual params body scope dV kV doc pm an cdv ct),osl⟩) (hcd:Gh K cdv qual=true) (S:aO N ps scope)
  (len:∀ vs H Q E,sp vs H Q E->vs.length=ps.length)
  (hbody:∀ (A:bC) (outer:List Env) (s:Shared) (H:Hp) (vs:List V) (Q:VK) (E:XK),jK k (A.deeper (j8 qual scope s.heap.objs.size f cdv))->sp vs H Q E ->
   ∃ t,PSs (zc CX P w K mg base N qual scope f cdv A outer s H E) body t/\t { nx:=fun _ H'=>Q .non H',rt:=Q } (start N vs) H) :
  cY P w K mg base CX (k+1) f (j7 name qual params body scope dV kV doc pm an cdv ct) ps sp:=by
 refine ⟨len,fun A outer s H args us vs Q E hr e0 hb r hsp=>?_⟩
 have hl:=len _ _ _ _ hsp
 have KX:K.In s.heap:=e0.mod.kin.keeps fun b o e=>(e0.bs b o e).1
 have lim:s.heap.NoLimit:=e0.mod.nolimit.keeps fun b o e=>(e0.bs b o e).1
 have hkind:∀ y∈ps.zip us,scope.names.lookup y.1=some .local\/(scope.names.lookup y.1=some .cell/\((Tp (s.heap.objs.size+1) scope.names []).lookup y.1).isSome=true):=fun ⟨n,v⟩ hy=>by
  rcases S.par n (Gd hy).1 with q | q
  ·exact .inl q
  ·exact .inr ⟨q,acq _ _ _ (.inl q)⟩
 refine codeAny_call_function hr.depth (KX _ _ lk) rfl S.co S.gen rfl (PySem.W.codeRec_of KX hcd) (hb _ _ _ _ ?_)
 refine wpAny_newFunctionEnv_cells S.kind hkind fun env he s1 x=>?_
 subst he
 refine ⟨lim.keeps x.toInCall.keep,codeAny_func ?_⟩
 obtain ⟨t,ht,hq⟩:=hbody A outer s H vs Q E (hr.deeper _) hsp
 have I:Inv (zc CX P w K mg base N qual scope f cdv A outer s H E) [] (start N vs) H s1:=aam S hr.hd e0 hl r x
 refine fO (ht [] s1 (start N vs) H _ I hq) (fun fl s' hs=>?_) fun e s' hs=>hs
 have fin:∀ {σ':St} {H':Hp} {v:V} {u:Value},Inv (zc CX P w K mg base N qual scope f cdv A outer s H E) [] σ' H' s'->RelV v u->Q v H'->CE outer P w H s Q u s' :=
  fun {σ' H' v u} J rv q=>⟨v,H',J.os,J.bare,J.base,J.hok,rv,q⟩
 cases fl with
 | ret u =>
  obtain ⟨v,σ',H',J,rv,q⟩:=hs
  exact fin J rv q
 | next =>
  obtain ⟨σ',H',J,q⟩:=hs
  exact fin (v:=V.non) (u:=Value.none) J rfl q
 | brk =>
  obtain ⟨_,_,_,q⟩:=hs
  exact iZ q
 | cont =>
  obtain ⟨_,_,_,q⟩:=hs
  exact iZ q
section
variable {pos:Pos} {id T:String} {r:List V->Hp->VK->Prop}
@[reducible] noncomputable def tCB (r:List V->Hp->VK->Prop) (t:TA):TE:=fun σ H Q=>t σ H fun vs H1=>r vs H1 Q
theorem bF (hc:jD X (.builtin id) r) (hg:Gl X x) (hm:X.mg x=none) (hv:Fv x=some (.builtin id)) (ha:PA X (e::es) t) (hn:x ≠ "__name__" := by decide) (hdb:(x == ("__debug__" : Str))=false:=by decide)
  (he:dM (e::es) X.env=(false,eval e X.env)::dM es X.env:=by rfl) (hpl:(iI pos (dM es X.env)).any (·.1)=false:=by rfl):PE X (.Call (.Name x p) (e::es) [] pos) (tCB r t):=by
 walk_at "k"
 refine tQ (nA I hg hm hv ?_ hn hdb)
 exact air (thn (ha pos pins s σ H _ I h) fun us s1 ⟨vs,H1,I1,r1,q1⟩=>hc pins s1 σ H1 vs us Q I1 r1 q1) he hpl
theorem mU (hc:jD X (.type T) r) (hg:Gl X x) (hm:X.mg x=none) (hv:Fv x=some (.type T)) (ha:PA X (e::es) t) (hn:x ≠ "__name__" := by decide) (hdb:(x == ("__debug__" : Str))=false:=by decide)
  (he:dM (e::es) X.env=(false,eval e X.env)::dM es X.env:=by rfl) (hpl:(iI pos (dM es X.env)).any (·.1)=false:=by rfl):PE X (.Call (.Name x p) (e::es) [] pos) (tCB r t):=by
 walk_at "k"
 refine tQ (nA I hg hm hv ?_ hn hdb)
 exact Gq (thn (ha pos pins s σ H _ I h) fun us s1 ⟨vs,H1,I1,r1,q1⟩=>hc pins s1 σ H1 vs us Q I1 r1 q1) he hpl
end
end L2
namespace HT
open PySem PyProof.Rows
section
open PySem.SeqAt
open PySem.AutoSeq1 (wpAny_loadPart')
open PySem.MeetsSeq PySem.MeetsSeq2 PySem.MeetsSeq3
end
section
variable {prog:aN} {w:World} {A:bC} {E:Value->Shared->Prop} {s:Shared}
noncomputable def sIx (n d:Nat):Option Int->Nat
 | none=>d
 | some v=>if v<0 then (v+(n:Int)).toNat else min v.toNat n
end
end HT
namespace L2
open PySem PySem.Spec PyProof.Rows
variable {pins:List (Addr × Obj)} {kvs:List (List Key × V)} {s:Shared} {xs:List (List Key × Addr × Value)} {E Q:Value->Shared->Prop} {H H':Hp} {X:Cx} {u v:Value} {σ:St} {o:Option V} {w:World} {A:bC} {y x:V} {its:List Value} {α:Type} {t' n j:Nat} {e:Expr} {h':Heap} {T:String} {i:Int} {k:Key}
noncomputable abbrev TO:=St->Hp->(Option Int->Hp->Prop)->Prop
noncomputable def PO (X:Cx) (e:Option Expr) (t:TO):Prop :=
 ∀ (pins:List (Addr × Obj)) (s:Shared) (σ:St) (H:Hp) (Q:Option Int->Hp->Prop),Inv X pins σ H s->t σ H Q ->
  wpAny (model X.prog X.w) X.A (evalPart e X.env) (fun u s'=>∃ o H',Inv X pins σ H' s'/\IsPart u o/\Q o H') X.xe s
noncomputable def agu:TO:=fun _ H Q=>Q none H
noncomputable def tPart (t:TE):TO:=fun σ H Q=>t σ H fun x H1=>∃ i,x = .int i/\Q (some i) H1
theorem intsAre_of {ns:List Int}:∀ {us:List Value},Vals (ns.map V.int) us->IntsAre us ns:=by
 induction ns with
 | nil=>intro us r;rw [Mz] at r;cases r;exact .nil
 | cons n ns ih =>
  intro us r
  rw [f9] at r
  cases r with
  | cons r1 r2 =>
   obtain ⟨t,e⟩:=r1
   subst e
   exact .cons n t (ih r2)
section
variable {te:TE} {lo hi:Option Expr} {tl th:TO} {pos p2:Pos}
theorem Oj:PO X none agu:=by
 walk_at "k"
 rw [abG]
 exact bH ⟨none,H,I,.none,h⟩
theorem vp (h:PE X e te):PO X (some e) (tPart te):=by
 intro pins s σ H Q I hw
 rw [evalPart_some]
 refine thn (h pins s σ H _ I hw) fun u s1 ⟨x,H1,I1,r1,q1⟩=>?_
 obtain ⟨i,rfl,q⟩:=q1
 obtain ⟨t,rfl⟩:=r1
 exact ⟨some i,H1,I1,.int i t,q⟩
noncomputable def SlR (X:Cx) (r:V->Option Int->Option Int->Hp->VK->Prop):Prop :=
 ∀ (pins:List (Addr × Obj)) (s:Shared) (σ:St) (H:Hp) (x:V) (v vl vu:Value) (lo hi:Option Int) (sl:Addr) (Q:VK),Inv X pins σ H s->RelV x v->s.heap.IsSliceOf sl vl vu .none->IsPart vl lo->IsPart vu hi->r x lo hi H Q ->
  ∃ T id,Ly (.type T) "__getitem__" = pure (some (.builtin id))/\s.TypeIs v T/\wpAny (model X.prog X.w) X.A (Fy v (.ref sl)) (EP X pins σ Q) X.xe s
noncomputable def tSl (r:V->Option Int->Option Int->Hp->VK->Prop) (te:TE) (tl th:TO):TE:=fun σ H Q=>te σ H fun x H1=>tl σ H1 fun l H2=>th σ H2 fun u H3=>r x l u H3 Q
theorem Hg {r:V->Option Int->Option Int->Hp->VK->Prop} (hr:SlR X r) (he:PE X e te) (hl:PO X lo tl) (hu:PO X hi th):PE X (.Subscript e (.Slice lo hi none p2) pos) (tSl r te tl th):=by
 walk_at "k"
 refine U9 (thn (he pins s σ H _ I h) fun v s1 ⟨x,H1,I1,r1,q1⟩=>?_)
 refine wpAny_Slice (thn (hl pins s1 σ H1 _ I1 q1) fun vl s2 ⟨l,H2,I2,pl,q2⟩=>thn (hu pins s2 σ H2 _ I2 q2) fun vu s3 ⟨u,H3,I3,pu,q3⟩=>?_)
 rw [abG]
 refine bH ?_
 have I4:Inv X pins σ H3 { s3 with heap:=s3.heap.push { cls:=.type "slice",data:=.fields #[vl,vu,.none] } }:=I3.kept (t':=s3.toks) fun b ob q=>dR _ q
 obtain ⟨T,id,hT,ht,hg⟩:=hr pins { s3 with heap:=s3.heap.push { cls:=.type "slice",data:=.fields #[vl,vu,.none] } } σ H3 x v vl vu l u s3.heap.objs.size Q I4 r1 (adS ..) pl pu q3
 show wpAny (model X.prog X.w) X.A (Nj e (.Slice lo hi none p2) v (.ref s3.heap.objs.size)) (EP X pins σ Q) X.xe { s3 with heap:=s3.heap.push { cls:=.type "slice",data:=.fields #[vl,vu,.none] } }
 exact tail_any (ops:=[.ref s3.heap.objs.size,v]) ht hT hg (by with_unfolding_all rfl)
noncomputable def QD (xs:List V) (lo hi:Option Int):List V:=(xs.drop (HT.sIx xs.length 0 lo)).take (HT.sIx xs.length xs.length hi-HT.sIx xs.length 0 lo)
theorem QF (xs:List V) (lo hi:Option Int):(QD xs lo hi).length<=xs.length:=by
 unfold QD
 rw [gJ,wY]
 lia
end
noncomputable def ixN (n:Nat) (i:Int):Option Nat:=if 0<=i then (if i<n then some i.toNat else none) else if -(n:Int)<=i then some (i+n).toNat else none
noncomputable def atI {α:Type} (xs:List α) (i:Int):Option α:=(ixN xs.length i).bind fun j=>xs[j]?
theorem Zb (h:ixN n i=some j):seqIndex? i n=some j/\j<n /\ -(n:Int)<=i/\i<n:=by
 unfold ixN at h
 by_cases h0:0<=i
 ·rw [if_pos h0] at h
  by_cases h1:i<n
  ·rw [if_pos h1] at h
   have e:i.toNat=j:=dB h
   exact ⟨by rw [S8 h0 h1,e],by lia,by lia,h1⟩
  ·rw [if_neg h1] at h;cases h
 ·rw [if_neg h0] at h
  by_cases h1:-(n:Int)<=i
  ·rw [if_pos h1] at h
   have e:(i+n).toNat=j:=dB h
   exact ⟨by rw [S6 tb_g% h1,e],by lia,h1,by lia⟩
  ·rw [if_neg h1] at h;cases h
theorem Zc {xs:List α} {v:α} (h:atI xs i=some v):∃ j,seqIndex? i xs.length=some j/\xs[j]? = some v/\j<xs.length /\ -(xs.length:Int)<=i/\i<xs.length:=by
 unfold atI at h
 cases e:ixN xs.length i with
 | none=>rw [e] at h;cases h
 | some j =>
  rw [e] at h
  obtain ⟨h1,h2,h3,h4⟩:=Zb e
  exact ⟨j,h1,h,h2,h3,h4⟩
theorem gO {xs:List α} {v:α} (h:xs[j]? = some v):atI xs (j:Int)=some v:=by
 have hj:j<xs.length:=(fQ.mp h).1
 have e:ixN xs.length (j:Int)=some j:=by
  unfold ixN
  rw [if_pos tb_g%,if_pos tb_g%];simp
 unfold atI;rw [e];exact h
theorem QG (xs:List α) (v:α):atI (xs++[v]) (-1)=some v:=by
 have hl:(xs++[v]).length=xs.length+1:=by simp
 have e:ixN (xs++[v]).length (-1)=some xs.length:=by
  unfold ixN
  rw [hl,if_neg (by decide),if_pos tb_g%]
  congr 1
  lia
 unfold atI
 rw [e]
 show (xs++[v])[xs.length]? = some v
 simp
noncomputable def agv (b:Expr):Prop:=∀ o i,S9 b false o i=operate [o,i] (Fy o i)
noncomputable def IxR (X:Cx) (r:R2):Prop :=
 ∀ (value slice:Expr) (pins:List (Addr × Obj)) (s:Shared) (σ:St) (H:Hp) (x y:V) (v u:Value) (Q:VK),Inv X pins σ H s->RelV x v->RelV y u->r x y H Q ->
  S9 slice false v u=operate [v,u] (Fy v u)->wpAny (model X.prog X.w) X.A (Nj value slice v u) (EP X pins σ Q) X.xe s
noncomputable def MtR (X:Cx) (id:String) (r:V->List V->Hp->VK->Prop):Prop :=
 ∀ (pins:List (Addr × Obj)) (s:Shared) (σ:St) (H:Hp) (x:V) (xs:List V) (v:Value) (us:List Value) (Q:VK),Inv X pins σ H s->RelV x v->Vals xs us->r x xs H Q ->
  wpAny (model X.prog X.w) X.A (call (.builtin id) (v::us)) (EP X pins σ Q) X.xe s
section
variable {a b:Expr} {ta tb:TE} {pos:Pos}
theorem IxR.or {r r':R2} (h:IxR X r) (h':IxR X r'):IxR X (fun x y H Q=>r x y H Q\/r' x y H Q):=by
 intro value slice pins s σ H x y v u Q I rx ry q hs
 rcases q with q | q
 ·exact h value slice pins s σ H x y v u Q I rx ry q hs
 ·exact h' value slice pins s σ H x y v u Q I rx ry q hs
theorem cI {r:R2} (hr:IxR X r) (ha:PE X a ta) (hb:PE X b tb) (hs:agv b):PE X (.Subscript a b pos) (tOp r ta tb):=by
 walk_at "k"
 exact U9 (binT ha hb I h fun v u s2 x y H2 I2 rx ry q=>hr a b pins s2 σ H2 x y v u Q I2 rx ry q (hs _ _))
noncomputable def rIxL (K:bh):R2:=fun x y H Q=>∃ p xs i v,x = .ref p/\y = .int i/\SqL K H p xs/\atI xs i=some v/\Q v H
noncomputable def rIxT (K:bh):R2:=fun x y H Q=>∃ p xs i v,x = .ref p/\y = .int i/\SqT K H p xs/\atI xs i=some v/\Q v H
theorem agw:IxR X (rIxL X.K):=by
 intro value slice pins s σ H x y v u Q I rx ry h hs
 obtain ⟨p,xs,i,z,rfl,rfl,hq,he,q⟩:=h
 cases rx
 obtain ⟨t,rfl⟩:=ry
 obtain ⟨its,r,pl,hz⟩:=I.list hq
 obtain ⟨j,h1,h2,h3,h4,h5⟩:=Zc he
 obtain ⟨w,ew,rw'⟩:=r.get h2
 have hl:=r.length
 have hn:=G9
 have fin:EP X pins σ Q w s:=⟨z,H,I,rw',q⟩
 by_cases h0:0<=i
 ·have hj:i.toNat=j:=by
   rw [S8 h0 h5] at h1
   exact dB h1
  exact item_listR pl.isList h0 tb_g% (by rw [hj];simpa using ew) fin hs
 ·have hj:(i+(its.toArray.size:Int)).toNat=j:=by
   rw [S6 tb_g% h4] at h1
   rw [dY,<- hl]
   exact dB h1
  exact acU (x:=w) pl.isList.typeIs Sw.lookup
   (wpAny_getItem_list_neg (Q:=fun r s'=>r=w/\EP X pins σ Q r s') pl.isList tb_g% (by rw [dY] <;> lia) tb_g% (by rw [hj];simpa using ew) ⟨rfl,fin⟩) hs
theorem ajL:IxR X (rIxT X.K):=by
 intro value slice pins s σ H x y v u Q I rx ry h hs
 obtain ⟨p,xs,i,z,rfl,rfl,hq,he,q⟩:=h
 cases rx
 obtain ⟨t,rfl⟩:=ry
 obtain ⟨its,r,pl,hz⟩:=I.tuple hq
 obtain ⟨j,h1,h2,h3,h4,h5⟩:=Zc he
 obtain ⟨w,ew,rw'⟩:=r.get h2
 have hl:=r.length
 have hn:=G9
 have fin:EP X pins σ Q w s:=⟨z,H,I,rw',q⟩
 exact acU (x:=w) pl.typeIs slot_tuple_getitem.lookup
  (getItem_tuple (j:=j) (Q:=fun r s'=>r=w/\EP X pins σ Q r s') pl tb_g% tb_g% (by rw [dY,<- hl];exact h1) (by simpa using ew) ⟨rfl,fin⟩) hs
theorem Xy (its:List Value) (n j:Nat) (u:Value):gU (·.setIfInBounds j u) { cls:=.type "list",data:=.seq its.toArray n }={ cls:=.type "list",data:=.seq (its.set j u).toArray n }:=by
 simp [gU]
theorem Inv.lst {pins:List (Addr × Obj)} {σ:St} {H:Hp} {s:Shared} {p:Addr} {xs:List V} (I:Inv X pins σ H s) (h:H p=some (.lst xs)) :
  ∃ (its:List Value) (n:Nat),Vals xs its/\s.heap.get? p=some { cls:=.type "list",data:=.seq its.toArray n }/\xs.length<=sizeLine:=by
 obtain ⟨z,its,n,r,e⟩:=I.hok p _ h
 exact ⟨its,n,r,e,z⟩
theorem Inv.ajM {p:Addr} {xs ys:List V} {its':List Value} {n':Nat} {f:Obj->Obj} (I:Inv X pins σ H s) (h:H p=some (.lst xs))
  (ho:s.heap.get? p=some { cls:=.type "list",data:=.seq its.toArray n }) (hf:f { cls:=.type "list",data:=.seq its.toArray n }={ cls:=.type "list",data:=.seq its'.toArray n' }) (r:Vals ys its') (hz:ys.length<=sizeLine) (t:Nat) :
  Inv X pins σ (upd H p (.lst ys)) { s with heap:=s.heap.update p f,toks:=t }:=by
 have e:(s.heap.update p f).get? p=some { cls:=.type "list",data:=.seq its'.toArray n' }:=by
  rw [yO f ho (by rw [hf] <;> rfl),hf]
 refine I.write (x:=p) (e:=p) (by rw [h];trivial) (.inl rfl) (fun b u hb q=>(m8 _ _ (aK hb)).trans q) ⟨_,e⟩ ?_
 exact ⟨hz,its',n',r,e⟩
noncomputable def ahM:V->V->V->Hp->(Hp->Prop)->Prop:=fun o i v H Q=>∃ p xs k j,o = .ref p/\i = .int k/\H p=some (.lst xs)/\ixN xs.length k=some j/\Q (upd H p (.lst (xs.set j v)))
theorem set_list:PSet X ahM:=by
 intro pins s σ H o i v ov iv u Q I ro ri rv h
 obtain ⟨p,xs,k,j,rfl,rfl,hp,hj,q⟩:=h
 cases ro
 obtain ⟨t,rfl⟩:=ri
 obtain ⟨its,n,r,ho,hz⟩:=I.lst hp
 obtain ⟨h1,h2,h3,h4⟩:=Zb hj
 have hl:=r.length
 have hn:=G9
 have I':Inv X pins σ (upd H p (.lst (xs.set j v))) { s with heap:=s.heap.update p (gU (·.setIfInBounds j u)) } :=
  I.ajM hp ho (Xy its n j u) (r.set rv j) (by rw [jU];exact hz) s.toks
 by_cases h0:0<=k
 ·have hk:k.toNat=j:=by
   rw [S8 h0 h4] at h1
   exact dB h1
  exact PySem.W.ki_setAt ho h0 tb_g% (by rw [dY,<- hl];exact h4) (by rw [hk];exact ⟨_,I',q⟩)
 ·have hk:(k+(its.toArray.size:Int)).toNat=j:=by
   rw [S6 tb_g% h3] at h1
   rw [dY,<- hl]
   exact dB h1
  exact PySem.W.ki_setBack ho tb_g% (by rw [dY,<- hl];exact h3) tb_g% (by rw [hk];exact ⟨_,I',q⟩)
theorem Ol (lo hi:Option Int) (n:Nat):(jr lo hi none n).1=((HT.sIx n 0 lo:Nat):Int)/\(jr lo hi none n).2.1=((HT.sIx n n hi:Nat):Int)/\(jr lo hi none n).2.2=1:=by
 refine ⟨?_,?_,rfl⟩
 ·cases lo with
  | none=>simp [jr,HT.sIx]
  | some i =>
   simp only [jr,HT.sIx,Vr,show (1:Int)>0 by decide,if_true]
   by_cases h:i<0
   ·simp only [h,if_true] <;> lia
   ·simp only [h,if_false] <;> lia
 ·cases hi with
  | none=>simp [jr,HT.sIx]
  | some i =>
   simp only [jr,HT.sIx,Vr,show (1:Int)>0 by decide,if_true]
   by_cases h:i<0
   ·simp only [h,if_true] <;> lia
   ·simp only [h,if_false] <;> lia
theorem Jq (its:List Value) (lo hi:Option Int):Fw its.toArray lo hi none=((its.drop (HT.sIx its.length 0 lo)).take (HT.sIx its.length its.length hi-HT.sIx its.length 0 lo)).toArray:=by
 obtain ⟨h1,h2,h3⟩:=Ol lo hi its.toArray.size
 unfold Fw
 rw [h1,h2,h3]
 simp only [sliceRange_one,pick_run,dY] <;> rfl
noncomputable def rSlL (K:bh):V->Option Int->Option Int->Hp->VK->Prop:=fun x lo hi H Q=>∃ a xs,x = .ref a/\SqL K H a xs/\∀ p,H p=none->Q (.ref p) (upd H p (.lst (QD xs lo hi)))
theorem Om:SlR X (rSlL X.K):=by
 intro pins s σ H x v vl vu lo hi sl Q I rx hs pl pu h
 obtain ⟨a,xs,rfl,hx,q⟩:=h
 cases rx
 obtain ⟨its,r,ht,hz⟩:=I.list hx
 have hlen:=r.length
 refine ⟨"list",_,Sw.lookup,ht.isList.typeIs,?_⟩
 refine abh ht.isList hs pl pu .none (by simp) ?_ (by rw [dY] <;> lia)
 rw [Jq,<- hlen]
 refine ⟨.ref s.heap.objs.size,_,I.laid (t':=s.toks) (o:=.lst (QD xs lo hi)) (fun b ob q=>dR _ q) (bV _) ?_,rfl,q _ (I.hok.fresh (bV _))⟩
 exact ⟨iC (QF xs lo hi) hz,_,0,(r.drop (HT.sIx xs.length 0 lo)).take (HT.sIx xs.length xs.length hi-HT.sIx xs.length 0 lo),eE _ rfl⟩
noncomputable def uI:V->Bool
 | .non=>true
 | .bl _=>true
 | .int _=>true
 | .str _=>true
 | _=>false
noncomputable def eqV:V->V->Bool
 | .non,.non=>true
 | .bl a,.bl b=>a == b
 | .bl a,.int b=>(if a then 1 else 0) == b
 | .int a,.bl b=>a == (if b then 1 else 0)
 | .int a,.int b=>a == b
 | .str a,.str b=>a == b
 | _,_=>false
theorem Xz (ry:RelV y u) (rx:RelV x v) (fy:uI y=true) (fx:uI x=true):Gy A s u v (eqV y x):=by
 cases y with
 | non =>
  cases ry
  cases x with
  | non=>cases rx;exact Vv _
  | bl b=>cases rx;exact aiJ b
  | int b=>obtain ⟨t,rfl⟩:=rx;exact aiM b t
  | str b=>obtain ⟨t,rfl⟩:=rx;exact aiN b t
  | _=>exact absurd (show false=true from fx) je
 | bl a =>
  cases ry
  cases x with
  | non=>cases rx;exact aiK a
  | bl b=>cases rx;exact aiL a b
  | int b=>obtain ⟨t,rfl⟩:=rx;exact aiO a b t
  | str b=>obtain ⟨t,rfl⟩:=rx;exact aiP a b t
  | _=>exact absurd (show false=true from fx) je
 | int a =>
  obtain ⟨t',rfl⟩:=ry
  cases x with
  | non=>cases rx;exact aiQ a t'
  | bl b=>cases rx;exact aiR a t' b
  | int b=>obtain ⟨t,rfl⟩:=rx;exact aiU a t' b t
  | str b=>obtain ⟨t,rfl⟩:=rx;exact adL a t' b t
  | _=>exact absurd (show false=true from fx) je
 | str a =>
  obtain ⟨t',rfl⟩:=ry
  cases x with
  | non=>cases rx;exact aiS a t'
  | bl b=>cases rx;exact aiT a t' b
  | int b=>obtain ⟨t,rfl⟩:=rx;exact adM a t' b t
  | str b=>obtain ⟨t,rfl⟩:=rx;exact aiV a t' b t
  | _=>exact absurd (show false=true from fx) je
 | _=>exact absurd (show false=true from fy) je
noncomputable def eqU (x:V) (u:Value):Bool:=match u with
 | .none=>eqV .non x
 | .bool b=>eqV (.bl b) x
 | .int i _=>eqV (.int i) x
 | .str z _=>eqV (.str z) x
 | _=>false
theorem aeu (r:RelV y u) (f:uI y=true):eqU x u=eqV y x:=by
 cases y with
 | non=>cases r;rfl
 | bl b=>cases r;rfl
 | int i=>obtain ⟨t,rfl⟩:=r;rfl
 | str z=>obtain ⟨t,rfl⟩:=r;rfl
 | _=>exact absurd (show false=true from f) je
theorem Oo :∀ {xs:List V} {us:List Value},Vals xs us->xs.all uI=true->us.any (eqU x)=xs.any fun y=>eqV y x
 | _,_,.nil,_=>rfl
 | y::xs,u::us,.cons r t,f=>by
  rw [aci,Gw] at f
  rw [xG,xG,aeu r f.1,Oo t f.2]
theorem Hh (rx:RelV x v) (fx:uI x=true):∀ {xs:List V} {us:List Value},Vals xs us->xs.all uI=true->∀ u∈us,Gy A s u v (eqU x u)
 | _,_,.nil,_=>fun u hu=>by cases hu
 | y::xs,u::us,.cons r t,f=>fun u' hu=>by
  rw [aci,Gw] at f
  rcases cU.mp hu with rfl | hu
  ·rw [aeu r f.1];exact Xz r rx f.1 fx
  ·exact Hh rx fx t f.2 u' hu
noncomputable def inV (x:V) (xs:List V):Bool:=xs.any fun y=>eqV y x
noncomputable def rIn (K:bh) (neg:Bool):R2:=fun x y H Q=>∃ p xs,y = .ref p/\(SqL K H p xs\/SqT K H p xs)/\uI x=true/\xs.all uI=true/\Q (.bl (if neg then !inV x xs else inV x xs)) H
theorem Oq:OpR X (jF .NotIn) (rIn X.K true):=by
 walk_at "l"
 obtain ⟨p,xs,rfl,hq,fx,fs,q⟩:=h
 cases ry
 rcases hq with hq | hq
 ·obtain ⟨its,r,pl,hz⟩:=I.list hq
  refine SeqAt.notIn_listAt (eqU x) pl.isList (fun w hw=>Hh rx fx r fs w (by simpa using hw)) ⟨.bl _,H,I,rfl,?_⟩
  rw [show its.toArray.any (eqU x)=its.any (eqU x) by simp,Oo r fs]
  exact q
 ·obtain ⟨its,r,pl,hz⟩:=I.tuple hq
  refine SeqAt.notIn_tupleAt (eqU x) pl (fun w hw=>Hh rx fx r fs w (by simpa using hw)) ⟨.bl _,H,I,rfl,?_⟩
  rw [show its.toArray.any (eqU x)=its.any (eqU x) by simp,Oo r fs]
  exact q
theorem jD.or {f:Value} {r r':List V->Hp->VK->Prop} (h:jD X f r) (h':jD X f r'):jD X f (fun xs H Q=>r xs H Q\/r' xs H Q):=by
 intro pins s σ H xs us Q I rs q
 rcases q with q | q
 ·exact h pins s σ H xs us Q I rs q
 ·exact h' pins s σ H xs us Q I rs q
theorem Ot:jD X (.type "list") (fun xs H Q=>∃ p ys,xs=[.ref p]/\(SqL X.K H p ys\/SqT X.K H p ys)/\∀ l,H l=none->Q (.ref l) (upd H l (.lst ys))):=by
 intro pins s σ H xs us Q I r h
 obtain ⟨p,ys,rfl,hq,q⟩:=h
 obtain ⟨u,rfl,rx⟩:=vals1 r
 cases rx
 have fin:∀ (its:List Value),Vals ys its->ys.length<=sizeLine->∀ (h':Heap) (c':Nat),(∀ b o',s.heap.get? b=some o'->h'.get? b=some o') ->
   h'.get? s.heap.objs.size=some { cls:=.type "list",dict:=none,data:=.seq its.toArray c',slots:=#[] }->EP X pins σ Q (.ref s.heap.objs.size) { s with heap:=h' }:=fun its r' hz h' c' kp e =>
  ⟨.ref s.heap.objs.size,_,I.laid (t':=s.toks) kp (bV _) (show eG X.prog X.w _ h' _ (.lst ys) from ⟨hz,its,c',r',e⟩),rfl,q _ (I.hok.fresh (bV _))⟩
 rcases hq with hq | hq
 ·obtain ⟨its,r',pl,hz⟩:=I.list hq
  have hlen:=r'.length
  obtain ⟨o,ho,hc,n,hd⟩:=pl.isList
  exact abH p (.inl rfl) ho hc hd (fun h' c' kp e=>fin its r' hz h' c' kp e) (by simp only [dY] <;> lia)
 ·obtain ⟨its,r',pl,hz⟩:=I.tuple hq
  have hlen:=r'.length
  obtain ⟨o,ho,hc,n,hd⟩:=pl
  exact abH p (.inr rfl) ho hc hd (fun h' c' kp e=>fin its r' hz h' c' kp e) (by simp only [dY] <;> lia)
noncomputable def tyV (K:bh) (T:String) (x:V) (H:Hp):Prop:=match x with
 | .str _=>T = "str"
 | .int _=>T = "int"
 | .ref p=>(T = "list" /\ ∃ xs,SqL K H p xs)\/(T = "tuple" /\ ∃ o,K.lookup p=some o/\o.cls = .type "tuple" /\ o.dict=none) \/
   (T = "dict" /\ ((∃ kvs,H p=some (.dK kvs))\/∃ kvs,H p=some (.dT kvs)))\/(T = "set" /\ ∃ S n,H p=some (.set S n))
 | _=>False
theorem aev (I:Inv X pins σ H s) (r:RelV x v) (ty:tyV X.K T x H) :
  s.TypeIs v T/\∀ a,v = .ref a->∃ ob,s.heap.get? a=some ob/\ob.dict=none:=by
 cases x with
 | str z =>
  obtain ⟨t,rfl⟩:=r
  cases (show T = "str" from ty)
  exact ⟨typeIs_str s z t,fun _ e=>nomatch e⟩
 | int i =>
  obtain ⟨t,rfl⟩:=r
  cases (show T = "int" from ty)
  exact ⟨typeIs_int s i t,fun _ e=>nomatch e⟩
 | ref p =>
  cases r
  rcases ty with ⟨rfl,xs,hq⟩ | ⟨rfl,o,hk,hc,hd⟩ | ⟨rfl,hk⟩ | ⟨rfl,S,n,hk⟩
  ·obtain ⟨its,_,pl,_⟩:=I.list hq
   refine ⟨pl.isList.typeIs,fun a e=>?_⟩
   cases e
   obtain ⟨o,n,e,c,hd,_⟩:=pl
   exact ⟨o,e,hd⟩
  ·refine ⟨⟨o,I.kIn p o hk,hc⟩,fun a e=>?_⟩
   cases e
   exact ⟨o,I.kIn _ o hk,hd⟩
  ·have z:∃ o,s.heap.get? p=some o/\o.ExactDict:=by
    rcases hk with ⟨kvs,hk⟩ | ⟨kvs,hk⟩
    ·obtain ⟨_,_,_,_,o,_,_,e,ex,_⟩:=I.hok p _ hk
     exact ⟨o,e,ex⟩
    ·obtain ⟨_,_,_,_,o,_,_,e,ex,_⟩:=I.hok p _ hk
     exact ⟨o,e,ex⟩
   obtain ⟨o,e,ex⟩:=z
   refine ⟨⟨o,e,ex.1⟩,fun a e2=>?_⟩
   cases e2
   exact ⟨o,e,ex.2.1⟩
  ·obtain ⟨o,_,_,_,e,ex,_⟩:=I.hok p _ hk
   refine ⟨⟨o,e,ex.1⟩,fun a e2=>?_⟩
   cases e2
   exact ⟨o,e,ex.2.1⟩
 | _=>exact iZ ty
noncomputable def tBM0 (K:bh) (T:String) (r:V->List V->Hp->VK->Prop) (to:TE):TE:=fun σ H Q=>to σ H fun x H1=>tyV K T x H1/\r x [] H1 Q
noncomputable def tBM (K:bh) (T:String) (r:V->List V->Hp->VK->Prop) (to:TE) (t:TA):TE:=fun σ H Q=>to σ H fun x H1=>tyV K T x H1/\t σ H1 fun xs H2=>r x xs H2 Q
variable {o:Expr} {es:List Expr} {to:TE} {t:TA} {name:Str} {apos cpos:Pos} {id:String} {r:V->List V->Hp->VK->Prop}
theorem ajN (pa:PlainAttrs T) (slot:Slot T name id) (hty:typeOf (.builtin id)=pure (.type "method_descriptor")) (hm:MtR X id r) (ho:PE X o to)
  (hbase:wK o name X.env (eval o X.env)=eval o X.env:=by rfl) (hline:(apos.endLine == cpos.line)=true:=by rfl):PE X (.Call (.Attribute o name apos) [] [] cpos) (tBM0 X.K T r to):=by
 walk_at "k"
 refine wpAny_Call_method0_late hbase hline (thn (ho pins s σ H _ I h) fun v s1 ⟨x,H1,I1,r1,ty,q1⟩=>?_)
 obtain ⟨h1,h2⟩:=aev I1 r1 ty
 exact ⟨T,id,pa,slot,hty,h1,h2,Vp rfl (La (hm pins s1 σ H1 x [] v [] Q I1 r1 .nil q1))⟩
theorem Ka (pa:PlainAttrs T) (slot:Slot T name id) (hty:typeOf (.builtin id)=pure (.type "method_descriptor")) (hm:MtR X id r) (ho:PE X o to) (ha:PA X (e::es) t)
  (hbase:wK o name X.env (eval o X.env)=eval o X.env:=by rfl)
  (hfew:((iI cpos (dM (e::es) X.env)).all (fun x=>!x.1) && (Mf cpos (Lq [] X.env)).all (fun x=>x.1.isSome)
   && decide ((e::es).length+([]:List wQ).length+(if ([]:List wQ).isEmpty then 0 else 1)<30))=true:=by rfl)
  (hline:(apos.endLine == cpos.line)=true:=by rfl) (hs:dM (e::es) X.env=(false,eval e X.env)::dM es X.env:=by rfl) (hplain:(iI cpos (dM es X.env)).any (·.1)=false:=by rfl) :
  PE X (.Call (.Attribute o name apos) (e::es) [] cpos) (tBM X.K T r to t):=by
 walk_at "k"
 refine wpAny_Call_method_late hbase hfew hline rfl (thn (ho pins s σ H _ I h) fun v s1 ⟨x,H1,I1,r1,ty,q1⟩=>?_)
 obtain ⟨h1,h2⟩:=aev I1 r1 ty
 refine ⟨T,id,pa,slot,hty,h1,h2,?_⟩
 have hA:=ha cpos pins s1 σ H1 _ I1 q1
 rw [hs] at hA ⊢
 refine Vp (by show (false || (iI cpos (dM es X.env)).any (·.1))=false;rw [hplain] <;> rfl) (Vq ?_)
 exact thn hA fun us s2 ⟨vs,H2,I2,r2,q2⟩=>hm pins s2 σ H2 x vs v us Q I2 r1 r2 q2
end
noncomputable def MtM (X:Cx) (id:String) (r:V->List V->Hp->VK->Prop):Prop :=
 ∀ (pins:List (Addr × Obj)) (s:Shared) (σ:St) (H:Hp) (x:V) (xs:List V) (v:Value) (us:List Value) (Q:VK),Inv X pins σ H s->RelV x v->Vals xs us->r x xs H Q ->
  wpAny (model X.prog X.w) X.A (call (.builtin id) (v::us)) (EP X pins σ Q) X.xe s
theorem Vals.one:∀ {x:V} {us:List Value},Vals [x] us->∃ u,us=[u]/\RelV x u
 | _,_,.cons r .nil=>⟨_,rfl,r⟩
theorem Vals.zero:∀ {us:List Value},Vals [] us->us=[]
 | _,.nil=>rfl
theorem Vals.eraseIdx:∀ {xs:List V} {us:List Value} (i:Nat),Vals xs us->Vals (xs.eraseIdx i) (us.eraseIdx i)
 | _,_,_,.nil=>.nil
 | _,_,0,.cons _ t=>t
 | _,_,i+1,.cons r t=>.cons r (Vals.eraseIdx i t)
theorem Vals.reverse {xs:List V} {us:List Value} (h:Vals xs us):Vals xs.reverse us.reverse:=by
 induction h with
 | nil=>exact .nil
 | cons r t ih=>rw [wX,wX];exact Vals.append ih (.cons r .nil)
section
variable {l b:Addr} {xs ys zs:List V}
theorem Inv.lset {its':List Value} {f:Array Value->Array Value} (I:Inv X pins σ H s) (hH:H l=some (.lst xs))
  (e:s.heap.get? l=some { cls:=.type "list",data:=.seq its.toArray n }) (hf:f its.toArray=its'.toArray) (hv:Vals ys its') (hz:ys.length<=sizeLine) :
  Inv X pins σ (upd H l (.lst ys)) { s with heap:=s.heap.update l (gU f),toks:=t' }:=by
 have q:=ajA e f
 rw [hf] at q
 refine I.write (x:=l) (e:=l) (by rw [hH];exact trivial) (.inl rfl) (fun b' u hb hu=>(m8 s.heap (gU f) (aK hb)).trans hu) ⟨_,q⟩ ?_
 exact ⟨hz,its',_,hv,q⟩
theorem Inv.lnew (I:Inv X pins σ H s) (hv:Vals ys its) (hz:ys.length<=sizeLine) :
  Inv X pins σ (upd H s.heap.objs.size (.lst ys)) { s with heap:=s.heap.push { cls:=.type "list",data:=.seq its.toArray },toks:=t' } :=
 I.laid (fun _ _ q=>dR _ q) (bV _) ⟨hz,its,0,hv,eE _ rfl⟩
theorem Inv.fresh (I:Inv X pins σ H s):H s.heap.objs.size=none:=I.hok.fresh (bV _)
theorem Inv.Ou (I:Inv X pins σ H s) (hH:H l=some (.lst xs)):xs.length<=sizeLine/\∃ (its:List Value) (n:Nat),Vals xs its/\xs.length=its.length/\s.heap.get? l=some { cls:=.type "list",data:=.seq its.toArray n }:=by
 obtain ⟨z,its,n,r,e⟩:=I.hok l _ hH
 exact ⟨z,its,n,r,r.length,e⟩
end
noncomputable def agx:V->List V->Hp->VK->Prop:=fun x vs H Q=>∃ l xs y,x = .ref l/\vs=[y]/\H l=some (.lst xs)/\xs.length<sizeLine/\Q .non (upd H l (.lst (xs++[y])))
theorem jE:MtM X "list.append" agx:=by
 intro pins s σ H x vs v us Q I rx rv h
 obtain ⟨l,xs,y,rfl,rfl,hH,hz,q⟩:=h
 cases rx
 obtain ⟨u,rfl,ru⟩:=rv.one
 obtain ⟨z,its,n,r,hl,e⟩:=I.Ou hH
 refine call_meets F.slot_list_append ⟨_,e,rfl⟩ F.entry_list_append (F.args_list_append_2 _ _) (PySem.list_append l its.toArray n u (by rw [dY];lia)) ⟨e,?_⟩
 refine ⟨.non,_,I.lset (its':=its++[u]) hH e (by simp) (r.append (.cons ru .nil)) ?_,rfl,q⟩
 rw [dh,List.length_singleton]
 lia
noncomputable def rCat:R2:=fun x y H Q=>∃ l b xs zs,x = .ref l/\y = .ref b/\H l=some (.lst xs)/\H b=some (.lst zs)/\xs.length+zs.length<=sizeLine/\∀ p,H p=none->Q (.ref p) (upd H p (.lst (xs++zs)))
theorem yd:OpR X (tV .Add) rCat:=by
 walk_at "l"
 obtain ⟨l,b,xs,zs,rfl,rfl,hH,hB,hz,q⟩:=h
 cases rx
 cases ry
 obtain ⟨z,its,n,r,hl,e⟩:=I.Ou hH
 obtain ⟨z2,its2,n2,r2,hl2,e2⟩:=I.Ou hB
 refine PySem.P.add_list e e2 ?_ (by rw [dY,dY];lia)
 have ea:its.toArray++its2.toArray=(its++its2).toArray:=by simp
 rw [ea]
 exact ⟨.ref _,_,I.lnew (t':=s.toks) (r.append r2) (by rw [dh];lia),rfl,q _ I.fresh⟩
section
variable {prog:aN}
set_option maxRecDepth 100000 in
end
section
variable {κ:Type} [DecidableEq κ]
noncomputable def Cj (kvs:List (κ × V)) (k:κ):Option V:=(kvs.find? fun kv=>decide (kv.1=k)).map (·.2)
noncomputable def putK (kvs:List (κ × V)) (k:κ) (v:V):List (κ × V) :=
 if (kvs.any fun kv=>decide (kv.1=k))=true then kvs.map (fun kv=>if kv.1=k then (kv.1,v) else kv) else kvs++[(k,v)]
theorem zf {p:κ × V} {r:List (κ × V)} {k:κ} (e:p.1=k):Cj (p::r) k=some p.2:=by simp [Cj,xu,e]
theorem zj {p:κ × V} {r:List (κ × V)} {k:κ} (e:¬ p.1=k):Cj (p::r) k=Cj r k:=by simp [Cj,xu,e]
theorem QH (k:κ):∀ kvs:List (κ × V),(kvs.any fun kv=>decide (kv.1=k))=(Cj kvs k).isSome
 | []=>rfl
 | p::r=>by
  rw [xG]
  by_cases e:p.1=k
  ·simp only [zf e,decide_eq_true e,Bool.true_or,Option.isSome_some]
  ·rw [zj e,decide_eq_false e,adl];exact QH k r
theorem Dj (kvs:List (κ × V)) (k:κ) (v:V):(putK kvs k v).length<=kvs.length+1:=by
 unfold putK
 split
 ·rw [bA];lia
 ·rw [dh,iY,ace];lia
theorem tM.Ck {u:Option Value} (r:tM o u):o.isSome=u.isSome:=by
 cases o with
 | none=>cases u with
  | none=>rfl
  | some _=>exact (show False from r).elim
 | some _=>cases u with
  | none=>exact (show False from r).elim
  | some _=>rfl
theorem tM.getD {u:Option Value} {d:V} {d':Value} (r:tM o u) (rd:RelV d d'):RelV (o.getD d) (u.getD d'):=by
 cases o with
 | none=>cases u with
  | none=>exact rd
  | some _=>exact (show False from r).elim
 | some _=>cases u with
  | none=>exact (show False from r).elim
  | some _=>exact r
theorem KV.val {kvs:List (κ × V)} {vs:List (κ × Value)} (r:KV kvs vs) (k:κ):tM (Cj kvs k) (wR vs k):=by
 unfold KV at r
 induction r with
 | nil=>exact True.intro
 | @cons p q ps qs h t ih =>
  obtain ⟨h1,h2⟩:=h
  by_cases e:p.1=k
  ·have e':q.1=k:=h1.symm.trans e
   have b:wR (q::qs) k=some q.2:=by simp [wR,xu,e']
   rw [zf e,b];exact h2
  ·have e':¬ q.1=k:=fun z=>e (h1.trans z)
   have b:wR (q::qs) k=wR qs k:=by simp [wR,xu,e']
   rw [zj e,b];exact ih
theorem KV.any {kvs:List (κ × V)} {vs:List (κ × Value)} (r:KV kvs vs) (k:κ):(kvs.any fun kv=>decide (kv.1=k))=vs.any fun kv=>decide (kv.1=k):=by
 unfold KV at r
 induction r with
 | nil=>rfl
 | cons h t ih=>rw [xG,xG,ih,h.1]
theorem KV.repl {kvs:List (κ × V)} {vs:List (κ × Value)} (r:KV kvs vs) (k:κ) (ry:RelV y u) :
  KV (kvs.map fun kv=>if kv.1=k then (kv.1,y) else kv) (vs.map fun kv=>if kv.1=k then (kv.1,u) else kv):=by
 unfold KV at r ⊢
 induction r with
 | nil=>exact .nil
 | @cons p q ps qs h t ih =>
  rw [f9,f9]
  refine .cons ?_ ih
  obtain ⟨h1,h2⟩:=h
  by_cases e:p.1=k
  ·rw [if_pos e,if_pos (h1.symm.trans e)];exact ⟨h1,ry⟩
  ·rw [if_neg e,if_neg (fun z=>e (h1.trans z))];exact ⟨h1,h2⟩
theorem KV.put {kvs:List (κ × V)} {vs:List (κ × Value)} (r:KV kvs vs) (k:κ) (ry:RelV y u):KV (putK kvs k y) (stored vs k u):=by
 unfold putK stored
 rw [r.any k]
 by_cases e:(vs.any fun kv=>decide (kv.1=k))=true
 ·rw [if_pos e,if_pos e];exact r.repl k ry
 ·rw [if_neg e,if_neg e];exact adR r ⟨rfl,ry⟩
theorem KV.keys {kvs:List (κ × V)} {vs:List (κ × Value)} (r:KV kvs vs):kvs.map (·.1)=vs.map (·.1):=by
 unfold KV at r
 induction r with
 | nil=>rfl
 | cons h t ih=>rw [f9,f9,ih,h.1]
theorem KV.length {kvs:List (κ × V)} {vs:List (κ × Value)} (r:KV kvs vs):kvs.length=vs.length:=Vy r
end
theorem QJ {P:aN} (r:RelV (kV k) u):(cT P w).is k u=true:=by
 cases k with
 | inl i=>obtain ⟨t,e⟩:=(show ∃ t,u=Value.int i t from r);subst e;exact Qw P w i t
 | inr x=>obtain ⟨t,e⟩:=(show ∃ t,u=Value.str x t from r);subst e;exact Qx P w x t
theorem Kc {P:aN} :∀ {ks:List Key} {us:List Value},Vals (ks.map kV) us->ItemsAre (cT P w) ks us
 | [],_,r=>by rw [Mz] at r;cases r;exact .nil
 | k::ks,_,r=>by
  rw [f9] at r
  cases r with
  | cons h t=>exact .cons (QJ h) (Kc t)
noncomputable abbrev KT (H:Hp):List (List Key × V)->List (List Key × Addr × Value)->Prop:=Paired fun p q=>p.1=q.1/\H q.2.1=some (.tup (p.1.map kV))/\RelV p.2 q.2.2
theorem KT.val (r:KT H kvs xs) (k:List Key):tM (Cj kvs k) ((atKey xs k).map (·.2)):=by
 induction r with
 | nil=>exact True.intro
 | @cons p q ps qs h t ih =>
  obtain ⟨h1,_,h2⟩:=h
  by_cases e:p.1=k
  ·have e':q.1=k:=h1.symm.trans e
   have b:atKey (q::qs) k=some q.2:=by simp [atKey,xu,e']
   rw [zf e,b];exact h2
  ·have e':¬ q.1=k:=fun z=>e (h1.trans z)
   have b:atKey (q::qs) k=atKey qs k:=by simp [atKey,xu,e']
   rw [zj e,b];exact ih
theorem KT.repl (r:KT H kvs xs) (k:List Key) (ry:RelV y u) :
  KT H (kvs.map fun kv=>if kv.1=k then (kv.1,y) else kv) (xs.map (putAt k u)):=by
 induction r with
 | nil=>exact .nil
 | @cons p q ps qs h t ih =>
  rw [f9,f9]
  refine .cons ?_ ih
  obtain ⟨h1,h2,h3⟩:=h
  unfold putAt
  by_cases e:p.1=k
  ·rw [if_pos e,if_pos (h1.symm.trans e)];exact ⟨h1,h2,ry⟩
  ·rw [if_neg e,if_neg (fun z=>e (h1.trans z))];exact ⟨h1,h2,h3⟩
theorem KT.put (r:KT H kvs xs) (k:List Key) {b:Addr} (hb:H b=some (.tup (k.map kV))) (ry:RelV y u) :
  KT H (putK kvs k y) (storedH xs k b u):=by
 have e:(kvs.any fun kv=>decide (kv.1=k))=(atKey xs k).isSome:=by
  rw [QH,(r.val k).Ck,adD]
 unfold putK storedH
 rw [e]
 by_cases q:(atKey xs k).isSome=true
 ·rw [if_pos q,if_pos q];exact r.repl k ry
 ·rw [if_neg q,if_neg q];exact adR r ⟨rfl,hb,ry⟩
theorem KT.keeps (r:KT H kvs xs) (ht:∀ b ys,H b=some (.tup ys)->H' b=some (.tup ys)):KT H' kvs xs :=
 Paired.mapP r fun _ _ z=>⟨z.1,ht _ _ z.2.1,z.2.2⟩
section
variable {P:aN} {h:Heap} {a:Addr}
theorem ahN {u:HO} (ok:HOk P w H h) (e:Rd H a u):eG P w H h a u:=e.ok ok
theorem sZ {kvs:List (Key × V)} (ok:HOk P w H h) (e:Rd H a (.dK kvs)):kvs.length<=sizeLine/\(a == pO)=false/\∃ vs,KV kvs vs/\h.DictOf (cT P w) a vs :=
 show eG P w H h a (.dK kvs) from ahN ok e
theorem ahO {kvs:List (Key × V)} (ok:HOk P w H h) (e:H a=some (.dK kvs)):kvs.length<=sizeLine/\(a == pO)=false/\∃ vs,KV kvs vs/\h.DictOf (cT P w) a vs:=sZ ok (.inl e)
theorem Hj {ks:List Key} (ok:HOk P w H h) (e:H a=some (.tup (ks.map kV))):(Ay (cT P w)).is h ks a:=by
 obtain ⟨_,its,r,o,h1,h2,n,h3⟩:=(show eG P w H h a (.tup (ks.map kV)) from ok a _ e)
 exact ⟨o,its.toArray,n,h1,h2,h3,by simpa using Kc r⟩
theorem Kd (ok:HOk P w H h) (e:Rd H a (.dT kvs)):kvs.length<=sizeLine/\(a == pO)=false /\
  ∃ xs,KT H kvs xs/\h.DictOfH (Ay (cT P w)) a xs:=by
 obtain ⟨z,y,xs,r,o,es,ep,h1,h2,h3,h4,h5⟩:=(show eG P w H h a (.dT kvs) from ahN ok e)
 refine ⟨z,y,xs,r,o,es,ep,h1,h2,h3,h4,fun x hx=>?_,h5⟩
 have all:∀ {l:List (List Key × V)} {m:List (List Key × Addr × Value)},KT H l m->∀ x∈m,(Ay (cT P w)).is h x.1 x.2.1:=by
  intro l m q
  induction q with
  | nil=>intro x hx;exact nomatch hx
  | @cons p q ps qs hq t ih =>
   intro x hx
   rcases cU.mp hx with e | hx
   ·subst e
    exact Hj ok (by rw [<- hq.1];exact hq.2.1)
   ·exact ih x hx
 exact all r x hx
theorem dt_of (ok:HOk P w H h) (e:H a=some (.dT kvs)):kvs.length<=sizeLine/\(a == pO)=false /\
  ∃ xs,KT H kvs xs/\h.DictOfH (Ay (cT P w)) a xs:=Kd ok (.inl e)
end
noncomputable def Ov (H:Hp) (a:Addr) (y:V) (r:Option V):Prop :=
 (∃ kvs k,Rd H a (.dK kvs)/\y=kV k/\r=Cj kvs k)\/∃ kvs k b,Rd H a (.dT kvs)/\y = .ref b/\H b=some (.tup (k.map kV))/\r=Cj kvs k
noncomputable def DPut (H:Hp) (a:Addr) (y v:V) (H':Hp):Prop :=
 (∃ kvs k,H a=some (.dK kvs)/\y=kV k/\kvs.length<sizeLine/\H'=upd H a (.dK (putK kvs k v))) \/
 ∃ kvs k b,H a=some (.dT kvs)/\y = .ref b/\H b=some (.tup (k.map kV))/\kvs.length<sizeLine/\H'=upd H a (.dT (putK kvs k v))
section
variable {a:Addr} {v:V} {r:Value}
theorem Inv.big (I:Inv X pins σ H s):pO<s.heap.objs.size:=by
 have h:fG<s.heap.objs.size:=(I.mod.glob.keeps I.bk).lt
 exact acI (by decide) h
theorem aan (hu:A.units+1<cLine) (I:Inv X pins σ H s) (g:Ov H a y (some v)) (ry:RelV y u) (h:∀ w' s',Inv X pins σ H s'->RelV v w'->Q w' s') :
  wpAny (model X.prog X.w) A (Fy (.ref a) u) Q E s:=by
 rcases g with ⟨kvs,k,e,ey,l⟩ | ⟨kvs,k,b,e,ey,eb,l⟩
 ·subst ey
  obtain ⟨z,hd,vs,rel,dd⟩:=sZ I.hok e
  obtain ⟨w',hw,rw'⟩:=tM.some_of (v:=v) (o:=wR vs k) (by rw [l];exact rel.val k)
  exact wpAny_getItem_of (QJ ry) dd.mapOf hw (h w' _ (I.tok _) rw')
 ·subst ey
  cases (show u=Value.ref b from ry)
  obtain ⟨z,hd,xs,rel,dd⟩:=Kd I.hok e
  obtain ⟨w',hw,rw'⟩:=tM.some_of (v:=v) (o:=(atKey xs k).map (·.2)) (by rw [l];exact rel.val k)
  obtain ⟨p,hp,hp2⟩:=BL.mp hw
  refine wpAny_getItem_heap (Lb hu) (Hj I.hok eb) dd hp ?_
  rw [hp2]
  exact h w' _ (I.tok _) rw'
theorem agy (hu:A.units+1<cLine) (I:Inv X pins σ H s) (g:Ov H a y o) (ry:RelV y u) (h:∀ s',Inv X pins σ H s'->Q (.bool (!o.isSome)) s') :
  wpAny (model X.prog X.w) A (jF .NotIn u (.ref a)) Q E s:=by
 rcases g with ⟨kvs,k,e,ey,l⟩ | ⟨kvs,k,b,e,ey,eb,l⟩
 ·subst ey
  obtain ⟨z,hd,vs,rel,dd⟩:=sZ I.hok e
  refine wpAny_notIn_of (QJ ry) hd dd.mapOf ?_
  rw [<- (rel.val k).Ck,<- l]
  exact h _ (I.tok _)
 ·subst ey
  cases (show u=Value.ref b from ry)
  obtain ⟨z,hd,xs,rel,dd⟩:=Kd I.hok e
  refine wpAny_notIn_heap (Lb hu) (Hj I.hok eb) hd dd ?_
  have q:=(rel.val k).Ck
  rw [adD] at q
  rw [<- q,<- l]
  exact h _ (I.tok _)
theorem Zd {ob:HO} (I:Inv X pins σ H s) (mu:Mut (H a)) (hs:uf a s.heap h') (he:∃ q,h'.get? a=some q) (new:eG X.prog X.w (upd H a ob) h' a ob) :
  Inv X pins σ (upd H a ob) { s with heap:=h',toks:=t' } :=
 I.write (x:=a) (e:=a) mu (.inl rfl) (fun b q hb z=>(hs.2 b hb).trans z) he new
theorem aew {P:aN} {kvs:List (Key × V)} {vs:List (Key × Value)} (z:kvs.length<=sizeLine) (hd:(a == pO)=false) (rel:KV kvs vs) (dd:h'.DictOf (cT P w) a vs) :
  eG P w H' h' a (.dK kvs):=⟨z,hd,vs,rel,dd⟩
theorem aao {Q:Unit->Shared->Prop} (hu:A.units+1<cLine) (I:Inv X pins σ H s) (g:DPut H a y v H') (ry:RelV y u) (rv:RelV v r) (h:∀ s',Inv X pins σ H' s'->Q () s') :
  wpAny (model X.prog X.w) A (Ml (.ref a) u r) Q E s:=by
 rcases g with ⟨kvs,k,e,ey,l,eH⟩ | ⟨kvs,k,b,e,ey,eb,l,eH⟩
 ·subst ey eH
  obtain ⟨z,hd,vs,rel,dd⟩:=ahO I.hok e
  have hz:vs.length<=sizeLine:=by rw [<- rel.length];exact z
  have hl:(putK kvs k v).length<=sizeLine:=by have:=Dj kvs k v;lia
  refine wpAny_setItem_pairs (hsz:=hz) (QJ ry) dd fun h' dd' hs=>h _ ?_
  have he:∃ q,h'.get? a=some q:=let ⟨q,_,_,hq,_⟩:=dd';⟨q,hq⟩
  exact Zd I (by rw [e];exact True.intro) hs he (aew hl hd (rel.put k rv) dd')
 ·subst ey eH
  cases (show u=Value.ref b from ry)
  obtain ⟨z,hd,xs,rel,dd⟩:=dt_of I.hok e
  have hz:xs.length<=sizeLine:=by rw [<- Vy rel];exact z
  have hl:(putK kvs k v).length<=sizeLine:=by have:=Dj kvs k v;lia
  refine wpAny_setItem_heap (hsz:=hz) (Lb hu) (Hj I.hok eb) dd fun h' dd' hs=>h _ ?_
  obtain ⟨q,es,ep,hq,h2,h3,h4,_,h5⟩:=dd'
  refine Zd I (by rw [e];exact True.intro) hs ⟨q,hq⟩ ⟨hl,hd,_,(rel.put k eb rv).keeps fun c ys ec=>?_,q,es,ep,hq,h2,h3,h4,h5⟩
  rw [au (jg ec e (fun z=>nomatch z))]
  exact ec
end
section
variable {a:Addr} {kvs:List (Key × V)}
theorem d_len (I:Inv X pins σ H s) (e:Rd H a (.dK kvs)) (h:∀ t s',Inv X pins σ H s'->Q (.int kvs.length t) s'):wpAny (model X.prog X.w) A (call (.builtin "len") [.ref a]) Q E s:=by
 obtain ⟨z,hd,vs,rel,dd⟩:=sZ I.hok e
 refine call_len_dict hd dd (by rw [<- rel.length];rw [Lp] at z;lia) ?_
 rw [<- rel.length]
 exact h _ _ (I.tok _)
end
theorem QK {a:Addr} (I:Inv X pins σ H s) (g:Ov H a y o):s.TypeIs (.ref a) "dict" := by
 rcases g with ⟨kvs,k,e,_,_⟩ | ⟨kvs,k,b,e,_,_,_⟩
 ·obtain ⟨_,_,vs,_,dd⟩:=sZ I.hok e
  exact dd.typeIs
 ·obtain ⟨_,_,xs,_,dd⟩:=Kd I.hok e
  exact dd.typeIs
section
variable {o i value:Expr} {pos pos' tpos:Pos} {td ty tv:TE}
end
theorem aex {P:aN} (h:Heap) (hb:pO<h.objs.size):eG P w H (h.push { cls:=.type "dict",data:=.dict #[] }) h.objs.size (.dK []) :=
 ⟨cB _,beq_eq_false_iff_ne.mpr (aK (cO hb)),[],.nil,ajB h⟩
noncomputable def ajO:TE:=fun _ H Q=>∀ p,H p=none->Q (.ref p) (upd H p (.dK []))
section
variable {pos:Pos}
theorem QL:PE X (.Dict [] [] pos) ajO:=fun pins s σ H Q I h =>
 wpAny_Dict_empty ⟨.ref s.heap.objs.size,_,I.laid (a:=s.heap.objs.size) (o:=.dK []) (t':=s.toks) (fun _ _ q=>dR _ q) (bV _) (aex s.heap I.big),rfl,h _ (I.hok.fresh (bV _))⟩
end
structure M1 (X:Cx) (o:Expr) (m:Str) (apos:Pos) (e:Expr) (cpos:Pos):Prop where
 base:wK o m X.env (eval o X.env)=eval o X.env
 few:((iI cpos (dM [e] X.env)).all (fun x=>!x.1) && (Mf cpos (Lq [] X.env)).all (fun x=>x.1.isSome)
  && decide (([e]:List Expr).length+([]:List wQ).length+(if ([]:List wQ).isEmpty then 0 else 1)<30))=true
 line:(apos.endLine == cpos.line)=true
 trees:iI cpos (dM [e] X.env)=[(false,eval e X.env)]
structure M2 (X:Cx) (o:Expr) (m:Str) (apos:Pos) (e f:Expr) (cpos:Pos):Prop where
 base:wK o m X.env (eval o X.env)=eval o X.env
 few:((iI cpos (dM [e,f] X.env)).all (fun x=>!x.1) && (Mf cpos (Lq [] X.env)).all (fun x=>x.1.isSome)
  && decide (([e,f]:List Expr).length+([]:List wQ).length+(if ([]:List wQ).isEmpty then 0 else 1)<30))=true
 line:(apos.endLine == cpos.line)=true
 trees:iI cpos (dM [e,f] X.env)=[(false,eval e X.env),(false,eval f X.env)]
noncomputable def IsD (H:Hp) (a:Addr):Prop:=(∃ kvs,Rd H a (.dK kvs))\/∃ kvs,Rd H a (.dT kvs)
theorem Ow {a:Addr} (I:Inv X pins σ H s) (d:IsD H a) :
  s.TypeIs (.ref a) "dict" /\ (∀ b,Value.ref a = .ref b->∃ ob,s.heap.get? b=some ob/\ob.dict=none)/\(a == pO)=false:=by
 rcases d with ⟨kvs,e⟩ | ⟨kvs,e⟩
 ·obtain ⟨_,hd,vs,_,dd⟩:=sZ I.hok e
  refine ⟨dd.typeIs,fun b q=>?_,hd⟩
  cases q
  obtain ⟨ob,_,_,h1,h2,_⟩:=dd
  exact ⟨ob,h1,h2.2.1⟩
 ·obtain ⟨_,hd,xs,_,dd⟩:=Kd I.hok e
  refine ⟨dd.typeIs,fun b q=>?_,hd⟩
  cases q
  obtain ⟨ob,_,_,h1,h2,_⟩:=dd
  exact ⟨ob,h1,h2.2.1⟩
section
variable {a:Addr} {d:V} {r:Value}
theorem ajP (hu:A.units+1<cLine) (I:Inv X pins σ H s) (g:Ov H a y o) (ry:RelV y u) (rd:RelV d r) (h:∀ w' s',Inv X pins σ H s'->RelV (o.getD d) w'->Q w' s') :
  wpAny (model X.prog X.w) A (call (.builtin "dict.get") [.ref a,u,r]) Q E s:=by
 rcases g with ⟨kvs,k,e,ey,l⟩ | ⟨kvs,k,b,e,ey,eb,l⟩
 ·subst ey
  obtain ⟨z,hd,vs,rel,dd⟩:=sZ I.hok e
  refine abL Vn dd.typeIs adz (adx _ _ _) (meets_dict_get_default (cT X.prog X.w) a (QJ ry) hd r) ⟨_,dd.mapOf,h _ _ (I.tok _) ?_⟩
  rw [l]
  exact (rel.val k).getD rd
 ·subst ey
  cases (show u=Value.ref b from ry)
  obtain ⟨z,hd,xs,rel,dd⟩:=Kd I.hok e
  refine abL Vn dd.typeIs adz (adx _ _ _) (meetsH_dict_get_default (Ay (cT X.prog X.w)) a b hd r) ⟨Lb hu,k,xs,Hj I.hok eb,dd,h _ _ (I.tok _) ?_⟩
  rw [l]
  exact (rel.val k).getD rd
end
noncomputable def ajQ (td ty tx:TE):TE:=fun σ H Q=>td σ H fun x H1=>∃ a,x = .ref a/\IsD H1 a/\ty σ H1 fun y H2=>tx σ H2 fun z H3=>∃ o,Ov H3 a y o/\Q (o.getD z) H3
section
variable {o f:Expr} {apos cpos:Pos} {td ty tx:TE}
theorem QM (hu:X.A.units+1<cLine) (ho:PE X o td) (he:PE X e ty) (hf:PE X f tx) (m:M2 X o "get" apos e f cpos):PE X (.Call (.Attribute o "get" apos) [e,f] [] cpos) (ajQ td ty tx):=by
 walk_at "k"
 refine Ld m.base m.few m.line NP Vn PySem.F.type_dict_get (thn (ho pins s σ H _ I h) fun u s1 ⟨x,H1,I1,rx,a,ex,d,q1⟩=>?_)
 subst ex
 obtain rfl:u=Value.ref a:=rx
 obtain ⟨t1,t2,_⟩:=Ow I1 d
 refine ⟨t1,t2,?_⟩
 rw [m.trees]
 refine Vp rfl (Vq (uE (thn (he pins s1 σ H1 _ I1 q1) fun iv s2 ⟨y,H2,I2,ry,q2⟩ =>
  uE (thn (hf pins s2 σ H2 _ I2 q2) fun fv s3 ⟨z,H3,I3,rz,ov,g,q3⟩=>xV ?_))))
 exact ajP hu I3 g ry rz fun w' s4 I4 rw'=>⟨_,H3,I4,rw',q3⟩
end
section
variable {a:Addr} {kvs:List (Key × V)}
theorem aey (I:Inv X pins σ H s) (e:Rd H a (.dK kvs)) (h:∀ p s',H p=none->Inv X pins σ (upd H p (.dK kvs)) s'->Q (.ref p) s'):wpAny (model X.prog X.w) A (call (.type "dict") [.ref a]) Q E s:=by
 obtain ⟨z,hd,vs,rel,dd⟩:=sZ I.hok e
 refine kt_call_dict hd dd (by rw [<- rel.length];exact z) fun h' dd' hs=>?_
 refine h _ _ (I.hok.fresh (bV _)) (I.laid (a:=s.heap.objs.size) (o:=.dK kvs) (t':=s.toks) (fun b q hq=>?_) (bV _) (aew z (beq_eq_false_iff_ne.mpr (aK (cO I.big))) rel dd'))
 exact (hs.2 b (cO (bR hq))).trans (dR _ hq)
end
section
variable {a:Addr}
end
end L2
namespace Att
open PySem PySem.W PySem.Calls PyProof.Rows
theorem DY {P:Bb} {h:Heap}:∀ (ns:List Int) (vs:List Value),WellAll P h vs (ns.map WData.int)->IntsAre vs ns:=by
 intro ns
 induction ns with
 | nil =>
  intro vs w
  rw [Mz] at w
  cases w
  exact .nil
 | cons n ns ih =>
  intro vs w
  rw [f9] at w
  cases w with
  | cons a b =>
   cases a
   exact .cons _ _ (ih _ b)
theorem aap {l:OpenLaw} {n:Nat} (hn:l.most=some n) {P:Bb} {h:Heap} {args:List WData} {vals:List Value}
  (hpre:l.row.toRowW.claim.pre args=true) (hwl:WellAll P h vals args) :
  ∃ a vs ns,vals=[Value.ref a]/\args=[WData.list (ns.map WData.int)]/\h.get? a=some { cls:=.type "list",data:=.seq vs.toArray }/\IntsAre vs ns/\ns.length<=n:=by
 have hsh:WShape.hasAll [] args [.list .int]=true:=(pre_splitW hpre).1
 have hc:l.pre.holds [] { args:=args }=true:=(pre_splitW hpre).2
 obtain ⟨d,r,rfl,h1,h2⟩:=hasAllW_cons hsh
 obtain rfl:=hasAllW_nil h2
 obtain ⟨xs,rfl,h3⟩:=hasW_list h1
 obtain ⟨ns,rfl⟩:=items_int h3
 have hlen:ns.length<=n:=by
  unfold OpenLaw.pre at hc
  have h4:(WTm.not (.lt (.lit (.int (n:Int))) (.len (.arg 0)))).holds [] { args:=[.list (ns.map .int)] }=true:=by
   have h4:=(holds_andW hc).1
   rw [hn] at h4
   exact h4
  have h5:=condW_of h4 (w_not (w_lt w_lit (w_len_list (w_arg rfl))))
  rw [bA] at h5
  refine acF fun q=>?_
  have q':(n:Int)<((ns.length:Nat):Int):=by lia
  first
   | (rw [decide_eq_true q'] at h5;exact absurd h5 (by decide))
   | (simp at h5;lia)
 cases hwl with
 | cons w1 w2 =>
  cases w2
  cases w1 with
  | list ho hall=>exact ⟨_,_,ns,rfl,rfl,ho,DY ns _ hall,hlen⟩
theorem aaq (l:OpenLaw) (args:List WData):l.row.toRowW.claim.post args (.bool true) args=true :=
 postW_of (r:=l.row.toRowW) (X:=(true == true))
  (show WShape.has [] (.bool true) .bool=true by first | rfl | decide | simp [WShape.has,WShape.arms,WShape.armsAll])
  (show (WTm.eq .res (.lit (.bool true))).value [] { args:=args,res:=some (.bool true),after:=args }=some (.bool (true == true)) from w_eq_bool (w_res rfl) w_lit) rfl
theorem QS {l:OpenLaw} {n:Nat} {q:aN} {loose:List Str} {XP:(Str->Option Value)->Heap->Prop} {YP:World->Heap->Prop} {d:Ms}
  (hn:l.most=some n) (hdf:d.params.defaults=[])
  (call:∀ (w:World) (s₀ s₁:Shared) (mg mb:Str->Option Value) (fa:Addr) (o:Obj) (pm cd doc:Value) (a:Addr) (vs:List Value) (ns:List Int),
   Ground q loose [] XP w s₀ mg mb s₁.heap->YP w s₁.heap ->
   s₁.heap.get? fa=some o->o.data = .func (docDef d.name d.params d.body d.scope pm cd doc)->s₁.heap.CodeRec cd d.name->mg d.name=some (.ref fa) ->
   s₁.heap.get? a=some { cls:=.type "list",data:=.seq vs.toArray }->IntsAre vs ns->ns.length<=n->s₁.gens = #[] ->
   gj (model l.prog w) wU (.call (.ref fa) ⟨[.ref a],[]⟩) (fun r s'=>r = .ok (.ret (.bool true))/\OldK s₁.heap s'.heap/\s'.os=s₁.os/\qY s'.gens) s₁) :
  WalkO q loose XP YP l.row.toRowW d [] (fun f vs=>Lw f vs):=by
 intro w s₀ s₁ mg mb G Y fa o pm cd doc dV kV ho hd hcd hD hmg hg args vals as hpre hlay hrd hwl hlo
 obtain rfl:dV = .none:=Dflts.none hD hdf
 obtain rfl:kV = .none:=Dflts.noKw hD
 obtain ⟨a,vs,ns,rfl,rfl,hobj,hints,hlen⟩:=aap hn hpre hwl
 refine enter_call (tR (call w s₀ s₁ mg mb fa o pm cd doc a vs ns G Y ho (fd_plain hd) hcd hmg hobj hints hlen hg) fun r s' hq=>?_)
 obtain ⟨rfl,h2,h3,h4⟩:=hq
 exact ⟨.inl ⟨.bool true,.bool true,[],rfl,fun _=>rfl,.bool true,aaq l _,fun _=>⟨List.Pairwise.nil,fun _ hm=>(nomatch hm)⟩⟩,h2,h3,h4⟩
section
variable {prog:aN} {w:World} {A:bC} {E:Value->Shared->Prop} {s:Shared} {K:Frag}
noncomputable def ledger (h:Heap) (L d:Addr):List (Addr × Obj):=(mZ h.objs.size).filterMap fun a=>if a=L\/a=d then none else (h.get? a).map fun o=>(a,o)
end
end Att
namespace L2
open PySem PySem.Spec PyProof.Rows
theorem mV:∀ {vs:List Value} {ns:List Int},IntsAre vs ns->Vals (ns.map V.int) vs
 | _,_,.nil=>.nil
 | _,_,.cons n t h=>.cons ⟨t,rfl⟩ (mV h)
noncomputable def Only (H:Hp):Prop:=∀ b,H b=none\/∃ o xs,H b=some (.frz o (.lst xs))
theorem aez {P:aN} {w:World} {K:bh} {mg mb:Str->Option Value} {CX:CXT} {k:Nat} {fa a:Addr} {fd:FuncData} {x:Str} {sp:Sp} {s₁:Shared} {vs:List Value} {ns:List Int}
  (KX:K.In s₁.heap) (hns:s₁.heap.Ns fG mg) (hb:s₁.heap.Ns Td mb) (hbb:∀ x:Str,x ≠ "__name__" -> mb x=Fv x) (hlim:s₁.heap.NoLimit) (hg:s₁.gens = #[])
  (ha:s₁.heap.get? a=some { cls:=.type "list",data:=.seq vs.toArray }) (hi:IntsAre vs ns) (hl:ns.length<=sizeLine) (hr:jK k wU)
  (F:∀ base:Heap,K.In base->base.Ns fG mg->cY P w K mg base CX k fa fd [x] sp) (hbind:∀ (s:Shared) (u:Value),Az s fd ⟨[u],[]⟩ [(x,u)])
  (hsp:∀ H:Hp,Only H->SqL K H a (ns.map V.int)->sp [.ref a] H (fun v _=>v = .bl true) fun _ _ _=>False)
  (hCX:∀ H e s',CX [] H s₁ (fun _ _ _=>False) e s'->False) :
  gj (model P w) wU (.call (.ref fa) ⟨[.ref a],[]⟩) (fun r s'=>r = .ok (.ret (.bool true))/\OldK s₁.heap s'.heap/\s'.os=s₁.os/\qY s'.gens) s₁:=by
 have rv:=mV hi
 have lenV:=hi.length
 have core:∀ H:Hp,Only H->SqL K H a (ns.map V.int)->HOk P w H s₁.heap->(∀ b,H b≠none->b=a)->(H a≠none->K.lookup a=none) ->
   gj (model P w) wU (.call (.ref fa) ⟨[.ref a],[]⟩) (fun r s'=>r = .ok (.ret (.bool true))/\OldK s₁.heap s'.heap/\s'.os=s₁.os/\qY s'.gens) s₁:=by
  intro H hO hS hok hA hK
  have Ze:∀ {b:Addr} {o:Obj},s₁.heap.get? b=some o->H b=none->(Oc s₁.heap H).get? b=some o:=fun e n=>aea e n
  have noA:∀ {b:Addr} {o:Obj} {es:Array Tq} {ep:Nat},s₁.heap.get? b=some o->o.data = .dict es ep->H b=none:=fun {b o es ep} e d=>by
   cases q:H b with
   | none=>rfl
   | some u =>
    have e':b=a:=hA b (by rw [q];simp)
    subst e'
    rw [ha] at e;cases e
    have d':Data.seq vs.toArray _=Data.dict es ep:=d
    cases d'
  have nsK:∀ {b:Addr} {m:Str->Option Value},s₁.heap.Ns b m->(Oc s₁.heap H).Ns b m:=fun {b m} ⟨o,es,ep,e,d,r⟩=>⟨o,es,ep,Ze e (noA e d),d,r⟩
  have hKb:K.In (Oc s₁.heap H):=fun b o e=>Ze (KX b o e) (by
   cases q:H b with
   | none=>rfl
   | some u =>
    have e':b=a:=hA b (by rw [q];simp)
    subst e'
    rw [hK (by rw [q];simp)] at e;cases e)
  have hM:Mod K mg (Oc s₁.heap H):=⟨hKb,nsK hns,⟨mb,nsK hb,hbb⟩,let ⟨mc,h1,h2⟩:=hlim;⟨mc,nsK h1,h2⟩⟩
  have e0:Jp P w K mg (Oc s₁.heap H) wU [] s₁ H:=⟨rfl,hM,fun b o e=>agq e,M6 (aae _ _),trivial,fun b hb=>absurd (show b∈([]:List Addr) from hb) (by simp),hok,.of_eq hg⟩
  refine tR ((F _ hKb (nsK hns)).run wU [] s₁ H ⟨[.ref a],[]⟩ [.ref a] [.ref a] _ _ hr e0 (hbind s₁ (.ref a)) (.cons rfl .nil) (hsp H hO hS)) fun r s' h=>?_
  cases r with
  | error e=>exact (hCX H e s' h).elim
  | ok fl =>
   cases fl with
   | next=>exact iZ h
   | brk=>exact iZ h
   | cont=>exact iZ h
   | ret u =>
    obtain ⟨v,H',os,bare,un,hok',r',q⟩:=h
    have q':v = .bl true:=q
    subst q'
    obtain rfl:u=Value.bool true:=r'
    refine ⟨rfl,OldK.of_keep fun b o e=>?_,os,bare⟩
    cases q:H b with
    | none=>exact un.keep b o e q (by intro z;exact absurd (show b∈([]:List Addr) from z) (by simp)) (by simp)
    | some u =>
     rcases hO b with z | ⟨ob,xs,z⟩
     ·rw [q] at z;cases z
     ·have z2:=un.yV b ob _ z
      obtain ⟨e1,_⟩:=hok b _ z
      obtain ⟨e2,_⟩:=hok' b _ z2
      rw [e] at e1;cases e1
      exact e2
 cases hk:K.lookup a with
 | some o =>
  have e:=KX a o hk
  rw [ha] at e
  cases e
  refine core (fun _=>none) (fun _=>.inl rfl) (.inr ⟨_,vs.toArray,_,hk,rfl,rfl,rfl,by rw [dY,lenV];exact hl,by simpa using rv⟩) (fun b u z=>by have z':(none:Option HO)=some u:=z;cases z') (fun b z=>absurd rfl z) fun z=>absurd rfl z
 | none =>
  refine core (fun b=>if b=a then some (.frz { cls:=.type "list",data:=.seq vs.toArray } (.lst (ns.map V.int))) else none) (fun b=>?_) (.inl (.inr ⟨{ cls:=.type "list",data:=.seq vs.toArray },if_pos rfl⟩)) (fun b u z=>?_) (fun b z=>?_) fun _=>hk
  ·by_cases hb:b=a
   ·exact .inr ⟨_,_,if_pos hb⟩
   ·exact .inl (if_neg hb)
  ·by_cases hb:b=a
   ·have z':=(if_pos hb).symm.trans z
    cases z'
    subst hb
    exact ⟨ha,by rw [bA];exact hl,vs,_,rv,ha⟩
   ·have z':=(if_neg hb).symm.trans z
    cases z'
  ·by_cases hb:b=a
   ·exact hb
   ·exact absurd (if_neg hb) z
noncomputable abbrev KOf {K:bh} {h:Heap} (_:K.In h):bh:=K
theorem agz {l:PySem.W.OpenLaw} {n k:Nat} {q:aN} {loose:List Str} {XP:(Str->Option Value)->Heap->Prop} {YP:World->Heap->Prop} {d:Ms} {K:Bb->bh} {CX:World->CXT} {sp:World->Sp} {x:Str}
  (hn:l.most=some n) (hn2:n<=sizeLine) (hdf:d.params.defaults=[]) (hr:jK k wU)
  (hY:∀ (w:World) (h:Heap),YP w h->(K w.params).In h)
  (F:∀ (w:World) (mg:Str->Option Value) (fa:Addr) (h:Heap),(K w.params).In h->h.Ns fG mg->mg d.name=some (.ref fa) ->
   ∃ fd:FuncData,(∀ (s:Shared) (u:Value),Az s fd ⟨[u],[]⟩ [(x,u)]) /\
    ∀ base:Heap,(K w.params).In base->base.Ns fG mg->cY l.prog w (K w.params) mg base (CX w) k fa fd [x] (sp w))
  (hsp:∀ (w:World) (H:Hp) (a:Addr) (ns:List Int),ns.length<=n->Only H->SqL (K w.params) H a (ns.map V.int)->sp w [.ref a] H (fun v _=>v = .bl true) fun _ _ _=>False)
  (hCX:∀ (w:World) (H:Hp) (s:Shared) (e:Value) (s':Shared),CX w [] H s (fun _ _ _=>False) e s'->False) :
  Uu q loose XP YP l.row.toRowW d [] (fun f vs=>Lw f vs):=by
 refine Att.QS hn hdf fun w s₀ s₁ mg mb fa o pm cd doc a vs ns G Y ho hd hcd hmg hobj hints hlen hg=>?_
 have KX:=hY w _ Y
 obtain ⟨fd,hb,hF⟩:=F w mg fa _ KX G.T.g hmg
 exact aez KX G.T.g G.T.b G.T.builtins G.T.nolimit hg hobj hints (iC hlen hn2) hr hF hb (fun H hO hS=>hsp w H a ns hlen hO hS) fun H e s'=>hCX w H s₁ e s'
noncomputable abbrev CX0:CXT:=fun _ _ _ _ _ _=>False
noncomputable abbrev E0:XK:=fun _ _ _=>False
theorem bG {X:Cx}:Passes CX0 X E0:=fun _ _ _ _ _ _ _ h=>h.elim
structure Fun (K:bh) (x qual:Str) (st:Stmt) (f:Addr) (fd:FuncData):Prop where
 ex:∃ (oc:Value) (od:Option Addr) (kV doc pm:Value) (an:Option Addr) (cdv ct:Value) (osl:Array (Option Value)),
  fd=j7 x qual (jJ st) (iR st) (aH st) .none kV doc pm an cdv ct/\K.lookup f=some ⟨oc,od,.func fd,osl⟩/\Gh K cdv qual=true
 kp:pR K (.ref f)=true
section
variable {P:aN} {w:World} {K:bh} {mg:Str->Option Value} {base:Heap}
theorem Fun.ok {x qual:Str} {st:Stmt} {f:Addr} {fd:FuncData} {N ps:List Str} {k:Nat} {sp:Sp} (F:Fun K x qual st f fd) (S:aO N ps (aH st)) (len:∀ vs H Q E,sp vs H Q E->vs.length=ps.length)
  (hbody:∀ (cdv:Value) (A:bC) (outer:List Env) (s:Shared) (H:Hp) (vs:List V) (Q:VK) (E:XK),jK k (A.deeper (j8 qual (aH st) s.heap.objs.size f cdv))->sp vs H Q E ->
   ∃ t,PSs (zc CX0 P w K mg base N qual (aH st) f cdv A outer s H E).nox (iR st) t/\t { nx:=fun _ H'=>Q .non H',rt:=Q } (start N vs) H):cY P w K mg base CX0 (k+1) f fd ps sp:=by
 obtain ⟨oc,od,kV,doc,pm,an,cdv,ct,osl,rfl,lk,hcd⟩:=F.ex
 refine ahL lk hcd S len fun A outer s H vs Q E hr hsp=>?_
 obtain ⟨t,h,q⟩:=hbody cdv A outer s H vs Q E hr hsp
 exact ⟨t,h.nox,q⟩
theorem Fun.binds {x qual:Str} {st:Stmt} {f:Addr} {fd:FuncData} {ps:List Str} (F:Fun K x qual st f fd)
  (h:∀ (kV doc pm:Value) (an:Option Addr) (cdv ct:Value) (us:List Value),us.length=ps.length->wL (j7 x qual (jJ st) (iR st) (aH st) .none kV doc pm an cdv ct) ⟨us,[]⟩=pure (ps.zip us)):Binds K fd ps []:=by
 obtain ⟨oc,od,kV,doc,pm,an,cdv,ct,osl,rfl,lk,hcd⟩:=F.ex
 exact .all (h kV doc pm an cdv ct)
theorem ajR {x qual:Str} {st:Stmt} {f:Addr} {oc:Value} {od an:Option Addr} {osl:Array (Option Value)} {kV doc pm cdv ct:Value} (l:K.lookup f=some ⟨oc,od,.func (j7 x qual (jJ st) (iR st) (aH st) .none kV doc pm an cdv ct),osl⟩)
  (c:Gh K cdv qual=true) (k:pR K (.ref f)=true):Fun K x qual st f (j7 x qual (jJ st) (iR st) (aH st) .none kV doc pm an cdv ct):=⟨⟨oc,od,kV,doc,pm,an,cdv,ct,osl,rfl,l,c⟩,k⟩
end
theorem bN {A:bC} {k:Nat} (hr:jK k A):A.units+1<cLine:=Gk (Nat.add_le_add_left (by decide:1<=64) _) hr.units
theorem cL {n:Nat} (h:n<=1000):n<sizeLine:=Gk h (by decide)
section
variable {X:Cx}
theorem pv (i:Nat) {x:Str} {pos:Pos} (hN:X.N[i]? = some x:=by rfl) (hv:Vis X.env.scope x:=by first | exact Or.inl rfl | exact Or.inr (Or.inl rfl) | exact Or.inr (Or.inr rfl)) (hd:(x == ("__debug__" : Str))=false:=by decide)
  (hcd:(x == ("__classdict__" : Str))=false:=by decide):PE X (.Name x pos) (tVar i):=ajI hN hv hd hcd
end
theorem zp {A B:Prop} (h:B):if false=true then A else B:=by
 rw [if_neg je]
 exact h
theorem Ea {A B:Prop} (h:A):if true=true then A else B:=by
 rw [if_pos rfl]
 exact h
theorem eF {c A B:Prop} [Decidable c] (h1:c->A) (h2:¬ c->B):if c then A else B:=by
 by_cases h:c
 ·rw [if_pos h]
  exact h1 h
 ·rw [if_neg h]
  exact h2 h
theorem tu {c A B:Prop} [Decidable c] (hc:c) (h:B):if (!decide c)=true then A else B:=by
 rw [decide_eq_true hc]
 exact zp h
noncomputable def Same (H H':Hp):Prop:=∀ b o,H b=some o->H' b=some o
theorem Same.refl (H:Hp):Same H H:=fun _ _ h=>h
theorem Same.trans {H H1 H2:Hp} (a:Same H H1) (b:Same H1 H2):Same H H2:=fun c o h=>b c o (a c o h)
theorem Same.free {H H':Hp} (e:Same H H') {l:Addr} (h:H' l=Option.none):H l=Option.none:=by
 cases q:H l with
 | none=>rfl
 | some o =>
  rw [e l o q] at h
  cases h
theorem Same.seq {K:bh} {H H':Hp} {a:Addr} {xs:List V} (e:Same H H') (h:SqL K H a xs):SqL K H' a xs:=by
 rcases h with (h | ⟨o,h⟩) | h
 ·exact .inl (.inl (e _ _ h))
 ·exact .inl (.inr ⟨o,e _ _ h⟩)
 ·exact .inr h
section
variable {κ:Type} [DecidableEq κ]
end
end L2
set_option Elab.async false
set_option maxRecDepth 100000
namespace L2
open PySem PySem.Spec PyProof.Rows
section
variable {X:Cx}
noncomputable def Zf (K:bh):List V->Hp->VK->Prop:=fun xs H Q=>(∃ x n,xs=[x]/\LenV K x H n/\Q (.int n) H)\/∃ a kvs,xs=[V.ref a]/\Rd H a (.dK kvs)/\Q (.int kvs.length) H
theorem XC:jD X (.builtin "len") (fun xs H Q=>∃ a kvs,xs=[V.ref a]/\Rd H a (.dK kvs)/\Q (.int kvs.length) H):=by
 intro pins s σ H xs us Q I r h
 obtain ⟨a,kvs,rfl,ha,q⟩:=h
 obtain ⟨u,rfl,ru⟩:=vals1 r
 cases ru
 exact d_len I ha fun t s' I'=>⟨.int kvs.length,H,I',⟨t,rfl⟩,q⟩
theorem cD:jD X (.builtin "len") (Zf X.K):=aek.or XC
noncomputable def vR (K:bh):R2:=fun x y H Q=>rIxL K x y H Q\/rIxT K x y H Q\/∃ a v,x = .ref a/\Ov H a y (some v)/\Q v H
theorem agA (hu:X.A.units+1<cLine):IxR X (fun x y H Q=>∃ a v,x = .ref a/\Ov H a y (some v)/\Q v H):=by
 intro value slice pins s σ H x y v u Q I rx ry h hs
 obtain ⟨a,z,rfl,g,q⟩:=h
 obtain rfl:v=Value.ref a:=rx
 have hT:=QK I g
 unfold Nj
 refine aG ?_
 rw [getitemInPython_of_ne hT.not_modules]
 refine aG (Lg hT PySem.F.slot_dict_getitem.lookup ?_)
 have fin:wpAny (model X.prog X.w) X.A (S9 slice false (.ref a) u) (fun r s₃=>wpAny (model X.prog X.w) X.A (letTemporaryGo value (.ref a) r >>= fun _=>pure r) (EP X pins σ Q) X.xe s₃) X.xe s:=by
  rw [hs]
  exact wpAny_operating (aan hu I g ry fun w' s3 I3 rw'=>aG (wpAny_letTemporaryGo (bH ⟨z,H,I3,rw',q⟩)))
 first
  | exact bH (aG fin)
  | exact aG (bH (aG fin))
  | exact aG fin
theorem ixG (hu:X.A.units+1<cLine):IxR X (vR X.K):=agw.or (ajL.or (agA hu))
noncomputable def ahP:V->V->V->Hp->(Hp->Prop)->Prop:=fun o i v H Q=>ahM o i v H Q\/∃ a H',o = .ref a/\DPut H a i v H'/\Q H'
theorem setG (hu:X.A.units+1<cLine):PSet X ahP:=by
 intro pins s σ H o i v ov iv u Q I ro ri rv h
 rcases h with h | ⟨a,H',rfl,g,q⟩
 ·exact set_list pins s σ H o i v ov iv u Q I ro ri rv h
 ·obtain rfl:ov=Value.ref a:=ro
  exact aao hu I g ri rv fun s' I'=>⟨H',I',q⟩
noncomputable def rInG (K:bh) (neg:Bool):R2:=fun x y H Q=>rIn K neg x y H Q\/∃ a o,y = .ref a/\Ov H a x o/\Q (.bl (if neg then !o.isSome else o.isSome)) H
theorem ajS (hu:X.A.units+1<cLine):OpR X (jF .NotIn) (rInG X.K true):=by
 walk_at "l"
 rcases h with h | ⟨a,o,rfl,g,q⟩
 ·exact Oq pins s σ H x y v u Q I rx ry h
 ·obtain rfl:u=Value.ref a:=ry
  exact agy hu I g rx fun s' I'=>⟨.bl (!o.isSome),H,I',rfl,q⟩
noncomputable def ajT:List V->Hp->VK->Prop:=fun xs H Q=>∃ a kvs,xs=[V.ref a]/\Rd H a (.dK kvs)/\∀ p,H p=none->Q (.ref p) (upd H p (.dK kvs))
theorem Hl:jD X (.type "dict") ajT:=by
 intro pins s σ H xs us Q I r h
 obtain ⟨a,kvs,rfl,ha,q⟩:=h
 obtain ⟨u,rfl,ru⟩:=vals1 r
 cases ru
 exact aey I ha fun p s' hp I'=>⟨.ref p,_,I',rfl,q p hp⟩
theorem Zg {P:aN} {w:World} {k:Key} {u:Value} (h:(cT P w).is k u=true):RelV (kV k) u:=by
 rcases fH (show GJ k u=true from h) with ⟨i,t,rfl,rfl⟩ | ⟨x,t,rfl,rfl⟩
 ·exact ⟨t,rfl⟩
 ·exact ⟨t,rfl⟩
theorem Cm {P:aN} {w:World}:∀ {kvs:List (Key × V)} {vs:List (Key × Value)} {us:List Value},KV kvs vs->us.length=vs.length ->
  (∀ (j:Nat) (u:Value),us[j]? = some u->∃ k x,vs[j]? = some (k,x)/\(cT P w).is k u=true)->Vals (kvs.map fun p=>kV p.1) us
 | [],_,[],.nil,_,_=>.nil
 | [],_,_::_,.nil,hl,_=>by cases hl
 | _::_,_,[],.cons _ _,hl,_=>by cases hl
 | p::ps,_,u::us,.cons (b:=q) r t,hl,h=>by
  obtain ⟨k,x,e,hk⟩:=h 0 u rfl
  have e':q=(k,x):=by simpa using e
  have e2:p.1=k:=by rw [r.1,e']
  refine .cons (by show RelV (kV p.1) u;rw [e2];exact Zg hk) (Cm (P:=P) (w:=w) t (by simpa using hl) fun j v hv=>?_)
  obtain ⟨k',x',e'',hk'⟩:=h (j+1) v (by simpa using hv)
  exact ⟨k',x',by simpa using e'',hk'⟩
theorem Cp:∀ {kvs:List (Key × V)} {vs:List (Key × Value)} {us:List Value},KV kvs vs->us.length=vs.length ->
  (∀ (j:Nat) (u:Value),us[j]? = some u->∃ k,vs[j]? = some (k,u))->Vals (kvs.map (·.2)) us
 | [],_,[],.nil,_,_=>.nil
 | [],_,_::_,.nil,hl,_=>by cases hl
 | _::_,_,[],.cons _ _,hl,_=>by cases hl
 | p::ps,_,u::us,.cons (b:=q) r t,hl,h=>by
  obtain ⟨k,e⟩:=h 0 u rfl
  have e':q=(k,u):=by simpa using e
  refine .cons (by have:=r.2;rw [e'] at this;exact this) (Cp t (by simpa using hl) fun j v hv=>?_)
  obtain ⟨k',e''⟩:=h (j+1) v (by simpa using hv)
  exact ⟨k',by simpa using e''⟩
noncomputable def aeA:List V->Hp->VK->Prop:=fun xs H Q=>∃ a kvs,xs=[V.ref a]/\Rd H a (.dK kvs)/\∀ p,H p=none->Q (.ref p) (upd H p (.lst (kvs.map fun p=>kV p.1)))
theorem XD (hc:X.calm=true):jD X (.type "list") aeA:=by
 intro pins s σ H xs us Q I r h
 obtain ⟨a,kvs,rfl,ha,q⟩:=h
 obtain ⟨u,rfl,ru⟩:=vals1 r
 cases ru
 obtain ⟨z,hd,vs,rel,dd⟩:=sZ I.hok ha
 obtain ⟨ep,hat⟩:=dd.dictAt
 have hl:=rel.length
 refine acw (acy (knd:=cT X.prog X.w) (kvs:=vs) (ep:=ep) hd) (I.ok.hd hc) hat (by rw [<- hl];exact z) fun h' tk acc' c' hk hD hacc=>?_
 have hv:Vals (kvs.map fun p=>kV p.1) acc'.toList:=Cm rel (by rw [fU];exact hacc.1) fun j v e=>hacc.2 j v (by rw [<- iD];exact e)
 refine ⟨.ref s.heap.objs.size,_,I.laid (a:=s.heap.objs.size) (o:=.lst (kvs.map fun p=>kV p.1)) (t':=tk) hk (bV _) ?_,rfl,q _ (I.hok.fresh (bV _))⟩
 exact ⟨by rw [bA];exact z,acc'.toList,c',hv,by first | (rw [Uz];exact hD) | simpa using hD⟩
noncomputable def ajU (K:bh):List V->Hp->VK->Prop:=fun xs H Q=>(∃ p ys,xs=[.ref p]/\(SqL K H p ys\/SqT K H p ys)/\∀ l,H l=none->Q (.ref l) (upd H l (.lst ys)))\/aeA xs H Q
theorem yg (hc:X.calm=true):jD X (.type "list") (ajU X.K):=Ot.or (XD hc)
variable {a b c d:Expr} {ta tb tc td:TE} {pos:Pos}
end
section
variable {P:aN} {w:World} {H H':Hp} {h h':Heap} {a:Addr} {o:HO}
theorem eG.ex (x:eG P w H h a o):∃ u,h.get? a=some u:=by
 cases o with
 | lst xs=>obtain ⟨_,_,_,_,e⟩:=x;exact ⟨_,e⟩
 | tup xs=>obtain ⟨_,_,_,ob,e,_⟩:=x;exact ⟨ob,e⟩
 | dK kvs=>obtain ⟨_,_,_,_,o,_,_,e,_⟩:=x;exact ⟨o,e⟩
 | dT kvs=>obtain ⟨_,_,_,_,o,_,_,e,_⟩:=x;exact ⟨o,e⟩
 | set S n=>obtain ⟨o,_,_,_,e,_⟩:=x;exact ⟨o,e⟩
 | ins C dx fs=>obtain ⟨_,_,_,e,_⟩:=x;exact ⟨_,e⟩
 | own y=>exact x
 | xd fs=>obtain ⟨_,⟨o,_,_,e,_⟩,_⟩:=x;exact ⟨o,e⟩
 | rng lo hi=>obtain ⟨_,_,_,e⟩:=x;exact ⟨_,e⟩
 | frz ob u=>obtain ⟨e,_⟩:=x;exact ⟨_,e⟩
 | tbl ps=>exact ⟨_,show h.get? a=some _ from x⟩
 | met f y=>exact ⟨_,show h.get? a=some _ from x⟩
 | ext φ=>obtain ⟨_,⟨o,e⟩,_⟩:=x;exact ⟨o,e⟩
theorem HOk.Ho (x:HOk P w H h) (k:∀ b u,h.get? b=some u->h'.get? b=some u) (hn:H a=none) (new:eG P w (upd H a o) h' a o):HOk P w (upd H a o) h':=fun b u e=>by
 by_cases hb:b=a
 ·subst hb;rw [aj] at e;cases e;exact new
 ·rw [au hb] at e
  exact (x b u e).stay (fun c v _ q=>k c v q) (fun c q=>by rw [au (ak q hn)];exact q) fun c xs q=>by rw [au (ak q hn)];exact q
theorem Un.Ho {fs ex:List Addr} (k:∀ b u,h.get? b=some u->h'.get? b=some u) (hne:∀ b u,h.get? b=some u->b≠a) (hn:H a=none):Un fs ex H (upd H a o) h h' where
 keep:=fun b u q _ _ _=>k b u q
 slot:=fun b u q _ _ _=>⟨u.slots,k b u q⟩
 free:=fun b u q n _=>by rw [au (hne b u q)];exact n
 there:=fun b u q _=>⟨u,k b u q⟩
 tups:=fun b xs q=>by rw [au (ak q hn)];exact q
 yV:=fun b u xs q=>by rw [au (ak q hn)];exact q
 DX:=fun b ps q=>⟨#[],by rw [au (ak q hn),q];simp⟩
end
section
variable {X:Cx} {pins:List (Addr × Obj)} {σ:St} {H H':Hp} {s:Shared} {h':Heap}
theorem Inv.none_of (I:Inv X pins σ H s) {a:Addr} (hne:∀ b u,s.heap.get? b=some u->b≠a):H a=none:=by
 cases q:H a with
 | none=>rfl
 | some u =>
  obtain ⟨v,e⟩:=(I.hok a u q).ex
  exact absurd rfl (hne a v e)
theorem Inv.Ho {a:Addr} {o:HO} {t':Nat} (I:Inv X pins σ H s) (k:∀ b u,s.heap.get? b=some u->h'.get? b=some u) (hne:∀ b u,s.heap.get? b=some u->b≠a) (new:eG X.prog X.w (upd H a o) h' a o) :
  Inv X pins σ (upd H a o) { s with heap:=h',toks:=t' }:=I.un (Un.Ho k hne (I.none_of hne)) (I.hok.Ho k (I.none_of hne) new)
theorem Inv.aeB {t':Nat} {it t:Addr} {o:HO} (I:Inv X pins σ H s) (k:∀ b u,b≠it->s.heap.get? b=some u->h'.get? b=some u) (hie:∃ u,h'.get? it=some u) (hn:H it=none) (hL:it≠X.env.locals)
  (h1:it∈X.ex\/X.s₀.heap.objs.size<=it) (h2:∀ x c,X.env.cells.lookup x=some c->c≠it) (h3:∀ p∈X.pn++pins,p.1≠it) (ht:s.heap.objs.size<=t)
  (new:eG X.prog X.w (upd H t o) h' t o):Inv X pins σ (upd H t o) { s with heap:=h',toks:=t' }:=by
 have nit:∀ b u,H b=some u->b≠it:=fun b u e z=>by rw [z,hn] at e;cases e
 have ntt:H t=none:=I.hok.fresh ht
 have lt:∀ b u,s.heap.get? b=some u->b≠t:=fun b u e=>cO (gF (bR e) ht)
 refine I.step (g':=s.gens) (d':=s.drawn) (ch:=[it]) (fun b hb=>?_) (fun b o _ _ hc e _=>k b o (fun z=>hc (by simp [z])) e) (fun b o _ _ hc e _=>⟨o.slots,k b o (fun z=>hc (by simp [z])) e⟩) (fun b u _ e n=>by rw [au (lt b u e)];exact n)
  (fun b o hc e=>⟨o,k b o (fun z=>hc (by simp [z])) e⟩) (fun b xs e=>by rw [au (ak e ntt)];exact e) (fun b q u e=>by rw [au (ak e ntt)];exact e) (fun b ps e=>⟨#[],by rw [au (ak e ntt),e];simp⟩) (fun m hm=>?_) (fun b u e=>?_) I.bare
 ·have e:b=it:=by simpa using hb
  subst e
  exact ⟨h1,hL,h2,h3⟩
 ·obtain ⟨o,es,ep,ho,r⟩:=hm
  exact ⟨o,es,ep,k _ o (aK hL) ho,r⟩
 ·by_cases hb:b=t
  ·subst hb;rw [aj] at e;cases e;exact new
  ·rw [au hb] at e
   refine (I.hok b u e).stay (fun c v hc q=>k c v ?_ q) (fun c q=>by rw [au (ak q ntt)];exact q) fun c xs q=>by rw [au (ak q ntt)];exact q
   rcases hc with z | z
   ·rw [z];exact nit b u e
   ·exact nit c _ z
theorem Inv.freeze {a:Addr} {kvs:List (Key × V)} (I:Inv X pins σ H s) (e:H a=some (.dK kvs)):∃ o es ep,o.data = .dict es ep/\s.heap.get? a=some o/\Inv X pins σ (upd H a (.frz o (.dK kvs))) s:=by
 obtain ⟨z,hd,vs,rel,o,es,ep,ho,hx⟩:=ahO I.hok e
 refine ⟨o,es,ep,hx.2.1,ho,?_⟩
 have I':Inv X pins σ (upd H a (.frz o (.dK kvs))) { s with heap:=s.heap,toks:=s.toks }:=I.write (x:=a) (e:=a) (by rw [e];exact trivial) (.inl rfl) (fun _ _ _ q=>q) ⟨o,ho⟩ ⟨ho,z,hd,vs,rel,o,es,ep,ho,hx⟩
 exact I'
theorem Inv.thaw {a:Addr} {o:Obj} {kvs:List (Key × V)} (I:Inv X pins σ H s) (e:H a=some (.frz o (.dK kvs))) (th:∀ q u,X.H₀ a≠some (.frz q u)):Inv X pins σ (upd H a (.dK kvs)) s:=by
 have ne:∀ b,H b=none->b≠a:=fun b n z=>by rw [z,e] at n;cases n
 have nt:∀ b xs,H b=some (.tup xs)->b≠a:=fun b xs n z=>by rw [z,e] at n;cases n
 have no:∀ b y,H b=some (.own y)->b≠a:=fun b y n z=>by rw [z,e] at n;cases n
 refine ⟨I.ok,I.os,I.bare,⟨I.base.keep,I.base.slot,fun b ob q n hx=>?_,I.base.there,fun b xs q=>?_,fun b ob u q=>?_,fun b ps q=>?_⟩,I.loc,I.cell,?_,fun x c q=>?_,fun p hp=>?_,fun b u q=>?_,I.len⟩
 ·have n':=I.base.free b ob q n hx
  rw [au (ne b n')];exact n'
 ·have q':=I.base.tups b xs q
  rw [au (nt b xs q')];exact q'
 ·have q':=I.base.yV b ob u q
  rw [au (fun (z:b=a)=>th ob u (z ▸ q))];exact q'
 ·obtain ⟨m,q'⟩:=I.base.DX b ps q
  exact ⟨m,by rw [au (fun z=>by rw [z,e] at q';cases q')];exact q'⟩
 ·rw [au (ne _ I.free)];exact I.free
 ·have n:=I.qC x c q
  rw [au (ne _ n)];exact n
 ·obtain ⟨h1,n,r⟩:=I.pin p hp
  exact ⟨h1,by rw [au (ne _ n)];exact n,r⟩
 ·by_cases hb:b=a
  ·subst hb;rw [aj] at q;cases q
   obtain ⟨_,r⟩:=(show eG X.prog X.w H s.heap b (.frz o (.dK kvs)) from I.hok b _ e)
   exact r
  ·rw [au hb] at q
   exact (I.hok b u q).stay (fun _ _ _ r=>r) (fun c r=>by rw [au (no c b r)];exact r) fun c xs r=>by rw [au (nt c xs r)];exact r
end
noncomputable def Iti (a:Addr) (o:Obj) (kvs:List (Key × V)):It :=
 ⟨fun i H=>H a=some (.frz o (.dK kvs))/\i<kvs.length,fun i H x H'=>∃ p t,kvs[i]? = some p/\H t=none/\x = .ref t/\H'=upd H t (.tup [kV p.1,p.2]),fun i H=>H a=some (.frz o (.dK kvs))/\kvs.length<=i⟩
theorem XF {P:aN} {w:World} {H:Hp} {h:Heap} {a:Addr} {o:Obj} {kvs:List (Key × V)} {es:Array Tq} {ep:Nat} (hok:HOk P w H h) (e:H a=some (.frz o (.dK kvs))) (hd:o.data = .dict es ep) :
  ∃ vs,KV kvs vs/\h.DictAt (cT P w) a vs ep:=by
 obtain ⟨ho,_,_,vs,rel,o',es',ep',ho',h2,h3,r⟩:=(show eG P w H h a (.frz o (.dK kvs)) from hok a _ e)
 rw [ho] at ho';cases ho'
 rw [hd] at h3;cases h3
 exact ⟨vs,rel,o,_,ho,h2,hd,r⟩
theorem KV.at {kvs:List (Key × V)} {vs:List (Key × Value)} (r:KV kvs vs):∀ {i:Nat} {p:Key × V},kvs[i]? = some p->∃ v,vs[i]? = some (p.1,v)/\RelV p.2 v:=by
 unfold KV at r
 induction r with
 | nil=>intro i p e;simp at e
 | @cons a b as bs h t ih =>
  intro i p e
  cases i with
  | zero =>
   have e':a=p:=by simpa using e
   subst e'
   exact ⟨b.2,by rw [h.1];rfl,h.2⟩
  | succ j =>
   obtain ⟨v,h1,h2⟩:=ih (i:=j) (p:=p) (by simpa using e)
   exact ⟨v,by simpa using h1,h2⟩
theorem vU:Fx table "dict_itemiterator.__iter__" = some gh.«dict_keyiterator.__iter__» :=
 SJ (id' := "dict_keyiterator.__iter__") (by kernel_rfl) rfl tb_g% (by kernel_rfl)
theorem tO {prog:aN} {w:World} {A:bC} {E:Value->Shared->Prop} {s:Shared} {it d:Addr} {i n ep:Nat} {ok ov:Value} {Q:Value->Shared->Prop} (hit:IsItemIter s.heap it d i n ep ok ov) (h:Q (.ref it) s) :
  wpAny (model prog w) A (wV (.ref it)) Q E s:=by
 have hT:s.TypeIs (.ref it) "dict_itemiterator" := ⟨_,hit,rfl⟩
 refine Sy hT F.slot_dict_itemiterator_iter (vV F.slot_dict_itemiterator_iter hT vU ?_ (F.args_dict_itemiterator_iter_1 _))
 show wpAny _ _ (ret (.ref it)) _ _ s
 exact bH ⟨_,rfl,"dict_itemiterator",_,hT,F.slot_dict_itemiterator_next.lookup,h⟩
theorem XH {P:aN} {w:World} {K:bh} {elts:List Expr} {x1} {tpos:Pos} (a it:Addr) (o:Obj) (kvs:List (Key × V)) {es:Array Tq} {ep:Nat} (hd:o.data = .dict es ep) :
  Turn P w K (.Tuple elts x1 tpos) (Iti a o kvs) [it] it (fun i h=>∃ ok ov,IsItemIter h it a i kvs.length ep ok ov) where
 mem:=by simp
 obj:=fun i h st b hb=>by
  have e:b=it:=by simpa using hb
  subst e
  obtain ⟨ok,ov,e⟩:=st
  exact ⟨_,e,fun v z=>by cases z⟩
 keep:=fun i h h' st k=>by
  obtain ⟨ok,ov,e⟩:=st
  exact ⟨ok,ov,k it (by simp) _ e⟩
 item:=by
  walk_at "i"
  subst hP hw hK
  obtain ⟨e,hi⟩:=hg
  obtain ⟨vs,rel,dm⟩:=XF I.hok e hd
  have hl:=rel.length
  obtain ⟨p,hp⟩:∃ p,kvs[i]? = some p:=⟨kvs[i],by simp [hi]⟩
  obtain ⟨v,hv,rv⟩:=rel.at hp
  k_dat it "j"
  obtain ⟨ok,ov,st⟩:=st
  refine wpAny_pyNext_items_item (knd:=cT X.prog X.w) (by rw [<- hl];exact st) dm hv fun key h' hkey heo ht hz hk=>?_
  have hit:it<s.heap.objs.size:=bR st
  have nt:H s.heap.objs.size=none:=I.hok.fresh (bV _)
  have I1:Inv X pins σ (upd H s.heap.objs.size (.tup [kV p.1,p.2])) { s with heap:=h' }:=I.aeB (t':=s.toks) hk ⟨_,heo⟩ f0 f1 f3 f4 f5 (bV _)
   ⟨by show 2<=sizeLine;decide,[key,v],.cons (Zg hkey) (.cons rv .nil),⟨_,ht,rfl,_,rfl⟩⟩
  have n1:(upd H s.heap.objs.size (.tup [kV p.1,p.2])) it=none:=by rw [au (cO hit)];exact f0
  refine ⟨.ref s.heap.objs.size,rfl,wpAny_letOwnedTupleGo_items heo fun h2 he2 hs2=>?_⟩
  refine ⟨.ref s.heap.objs.size,_,I1.turned (t':=s.toks) (fun b ob hb q=>(hs2.2 b hb).trans q) n1 f1 f3 f4 f5,rfl,⟨p,_,hp,nt,rfl,rfl⟩,⟨key,v,by rw [<- hl] at he2;exact he2⟩,fun b hb=>?_⟩
  have eb:b=it:=by simpa using hb
  subst eb
  exact n1
 done:=by
  walk_at "i"
  subst hP hw hK
  obtain ⟨e,hi⟩:=hg
  obtain ⟨vs,rel,dm⟩:=XF I.hok e hd
  have hl:=rel.length
  k_dat it "j"
  obtain ⟨ok,ov,st⟩:=st
  exact wpAny_pyNext_items_end (knd:=cT X.prog X.w) (I.ok.hd hc) (by rw [<- hl];exact st) dm (by rw [Tv];lia) fun h' eb=>⟨rfl,I.turned (t':=s.toks) (fun b o hb e=>eb b o hb e) f0 f1 f3 f4 f5⟩
 self:=fun A i s Q E st h=>by
  obtain ⟨ok,ov,e⟩:=st
  exact tO e h
section
variable {X:Cx} {tg:Expr}
noncomputable abbrev Warm (X:Cx) (a:Addr):Prop:=∀ q u,X.H₀ a≠some (.frz q u)
theorem Inv.warm {pins:List (Addr × Obj)} {σ:St} {H:Hp} {s:Shared} {a:Addr} {kvs:List (Key × V)} (I:Inv X pins σ H s) (e:H a=some (.dK kvs)):Warm X a:=fun q u z=>by
 have:=I.base.yV a q u z
 rw [e] at this;cases this
noncomputable def aeC (X:Cx) (td:TE):TI:=fun σ H R=>td σ H fun x H1=>∃ a kvs,x = .ref a/\H1 a=some (.dK kvs)/\∀ o,Warm X a->R (Iti a o kvs) (upd H1 a (.frz o (.dK kvs)))
structure MI (X:Cx) (o:Expr) (m:Str) (apos cpos:Pos):Prop where
 base:wK o m X.env (eval o X.env)=eval o X.env
 line:(apos.endLine == cpos.line)=true
theorem aeD {l:Expr} {td:TE} {elts:List Expr} {x1} {tpos apos cpos:Pos} (hl:PE X l td) (m:MI X l "items" apos cpos):PI X (.Tuple elts x1 tpos) (.Call (.Attribute l "items" apos) [] [] cpos) (aeC X td):=by
 intro pins s σ H R I h
 refine Ld (T := "dict") (id := "dict.items") m.base rfl m.line NP ady PySem.F.type_dict_items (thn (hl pins s σ H _ I h) fun v s1 ⟨x,H1,I1,r1,q1⟩=>?_)
 obtain ⟨a,kvs,rfl,e,q⟩:=q1
 obtain rfl:v=Value.ref a:=r1
 obtain ⟨t1,t2,hS⟩:=Ow I1 (.inl ⟨kvs,.inl e⟩)
 refine ⟨t1,t2,?_⟩
 obtain ⟨o,es,ep,hd,ho,If⟩:=I1.freeze e
 obtain ⟨vs,rel,dm⟩:=XF If.hok aj hd
 have hl':=rel.length
 refine SM ady PySem.F.entry_dict_items rfl (La ⟨rfl,t1,PySem.F.args_dict_items_1 _,_,meets_dict_items (cT X.prog X.w) a hS,⟨vs,dm.dictOf⟩,?_⟩)
 refine wpAny_pyIter_items (knd:=cT X.prog X.w) (d:=a) ⟨_,eE _ rfl,rfl,rfl⟩ (dm.push _) ?_
 have I2:=If.kept (h':=s1.heap.push { cls:=.type "dict_items",data:=.fields #[.ref a] }) (t':=s1.toks) fun b ob e=>dR _ e
 refine ⟨(s1.heap.push { cls:=.type "dict_items",data:=.fields #[.ref a] }).objs.size,[(s1.heap.push { cls:=.type "dict_items",data:=.fields #[.ref a] }).objs.size],_,_,_,rfl,I2.kept (t':=s1.toks) fun b ob e=>dR _ e,XH a _ o kvs hd,
  ⟨.none,.none,by rw [hl'];exact eE _ rfl⟩,fun b hb=>?_,q o (I1.warm e)⟩
 have eb:b=(s1.heap.push { cls:=.type "dict_items",data:=.fields #[.ref a] }).objs.size:=by simpa using hb
 subst eb
 exact I2.aah (bV _) (I2.hok.fresh (bV _))
noncomputable def aeE (X:Cx) (D:Ends):Ends where
 nx:=fun σ H=>∃ a kvs o,Warm X a/\H a=some (.frz o (.dK kvs))/\D.nx σ (upd H a (.dK kvs))
 rt:=fun v H=>∃ a kvs o,Warm X a/\H a=some (.frz o (.dK kvs))/\D.rt v (upd H a (.dK kvs))
theorem agB {pins:List (Addr × Obj)} {D:Ends} {f:Flow} {s':Shared} (h:SP X pins (aeE X D) f s'):SP X pins D f s':=by
 cases f with
 | next =>
  obtain ⟨σ',H',I,a,kvs,o,w,e,q⟩:=h
  exact ⟨σ',_,I.thaw e w,q⟩
 | brk =>
  obtain ⟨σ',H',I,q⟩:=h
  exact q.elim
 | cont =>
  obtain ⟨σ',H',I,q⟩:=h
  exact q.elim
 | ret u =>
  obtain ⟨v,σ',H',I,r,a,kvs,o,w,e,q⟩:=h
  exact ⟨v,σ',_,I.thaw e w,r,q⟩
noncomputable def tForI (X:Cx) (td:TE) (g:TG) (tb:TS):TS:=fun D σ H=>tFor (aeC X td) g tb (aeE X D) σ H
theorem Zh {l:Expr} {td:TE} {body:List Stmt} {elts:List Expr} {x1} {tpos apos cpos:Pos} {g:TG} {tb:TS} {pos:Pos} (hp:Tj (model X.prog X.w) X.A X.env X.xe) (hc:X.calm=true) (hl:PE X l td) (m:MI X l "items" apos cpos)
  (hg:PG X (.Tuple elts x1 tpos) g) (hb:PSs X body tb)
  (hs:∀ x,Fl (.Call (.Attribute l "items" apos) [] [] cpos) X.env x=pure x:=by intro _;rfl):PS X (.For (.Tuple elts x1 tpos) (.Call (.Attribute l "items" apos) [] [] cpos) body [] pos) (tForI X td g tb) :=
 fun pins s σ H D I h=>thn (rE hp hc (aeD hl m) hg hb hs pins s σ H (aeE X D) I h) fun _ _ q=>agB q
theorem Ke {a:Addr} {o:Obj} {kvs:List (Key × V)} {g:TG} {tb:TS} {D:Ends} {σ:St} {H:Hp} (Pv:Nat->St->Hp->Prop) (h0:Pv 0 σ H) (hl:∀ i σ H,Pv i σ H->H a=some (.frz o (.dK kvs)))
  (hs:∀ i p t σ H,kvs[i]? = some p->Pv i σ H->H t=none->g (.ref t) σ (upd H t (.tup [kV p.1,p.2])) fun σ2 H2=>tb { D with nx:=Pv (i+1),ct:=Pv (i+1),bk:=D.nx } σ2 H2) (hd:∀ σ H,Pv kvs.length σ H->D.nx σ H) :
  ∃ W:Nat->Nat->St->Hp->Prop,(∃ m,W 0 m σ H)/\∀ i m σ H,W i m σ H ->
   ((Iti a o kvs).stop i H/\D.nx σ H)\/((Iti a o kvs).go i H/\∃ N:St->Hp->Prop,(∀ σ' H',N σ' H'->∃ m',m'<m/\W (i+1) m' σ' H')/\∀ x H',(Iti a o kvs).yld i H x H'->g x σ H' fun σ2 H2=>tb { D with nx:=N,ct:=N,bk:=D.nx } σ2 H2):=by
 refine ⟨fun i m σ H=>m=kvs.length-i/\i<=kvs.length/\Pv i σ H,⟨kvs.length,by simp,cB _,h0⟩,?_⟩
 rintro i m σ H ⟨rfl,hi,p⟩
 have q:=hl i σ H p
 by_cases hlt:i<kvs.length
 ·refine .inr ⟨⟨q,hlt⟩,Pv (i+1),fun σ' H' p'=>⟨kvs.length-(i+1),by lia,rfl,hlt,p'⟩,fun x H' y=>?_⟩
  obtain ⟨pr,t,hp,ht,ex,e⟩:=y
  subst e ex
  exact hs i pr t σ H hp p ht
 ·have e:i=kvs.length:=by lia
  subst e
  exact .inl ⟨⟨q,bV _⟩,hd σ H p⟩
end
section
variable {X:Cx} {l:Expr} {td:TE} {p kp cpos apos pos:Pos} {j:Nat} {bpos:Pos}
end
end L2
set_option autoImplicit false
namespace MG
noncomputable abbrev Tab:=List (Int × Int)
noncomputable def look (c:Tab) (k:Int):Option Int:=(c.find? fun p=>decide (p.1=k)).map (·.2)
noncomputable def low (c:Tab) (k:Int):Int:=(look c k).getD 0
noncomputable def put (c:Tab) (k v:Int):Tab :=
 if (c.any fun p=>decide (p.1=k))=true then c.map (fun p=>if p.1=k then (p.1,v) else p) else c++[(k,v)]
noncomputable def keys (c:Tab):List Int:=c.map (·.1)
noncomputable def vals (c:Tab):List Int:=c.map (·.2)
noncomputable def dD (c:Tab) (cut:Int):Tab:=(c.filter fun p=>decide (cut<p.2)).map fun p=>(p.1,p.2-cut)
theorem aeF (k:Int):look [] k=none:=rfl
theorem iT (p:Int × Int) (r:Tab) (k:Int):look (p::r) k=if p.1=k then some p.2 else look r k:=by
 unfold look
 rw [xu]
 by_cases h:p.1=k
 ·rw [if_pos h];simp [h]
 ·rw [if_neg h];simp [h]
theorem Er (k:Int):low [] k=0:=rfl
theorem uJ (p:Int × Int) (r:Tab) (k:Int):low (p::r) k=if p.1=k then p.2 else low r k:=by
 unfold low
 rw [iT]
 by_cases h:p.1=k
 ·rw [if_pos h,if_pos h];rfl
 ·rw [if_neg h,if_neg h]
theorem Zi (c:Tab) (k:Int):(c.any fun p=>decide (p.1=k))=true↔k∈keys c:=by
 unfold keys
 rw [List.any_eq_true]
 constructor
 ·rintro ⟨p,h1,h2⟩
  exact jV.mpr ⟨p,h1,of_decide_eq_true h2⟩
 ·intro h
  obtain ⟨p,h1,h2⟩:=jV.mp h
  exact ⟨p,h1,decide_eq_true h2⟩
theorem v9 (c:Tab) (k:Int):look c k=none↔k∉keys c:=by
 induction c with
 | nil=>simp [aeF,keys]
 | cons p r ih =>
  rw [iT]
  by_cases h:p.1=k
  ·rw [if_pos h];simp [keys,h]
  ·rw [if_neg h,ih];simp [keys];intro _ e;exact h e.symm
theorem nH {c:Tab} {k:Int} (h:k∉keys c):low c k=0:=by
 unfold low;rw [(v9 c k).mpr h];rfl
theorem aeG {c:Tab} {k v:Int} (h:look c k=some v):(k,v)∈c:=by
 induction c with
 | nil=>cases h
 | cons p r ih =>
  rw [iT] at h
  by_cases e:p.1=k
  ·rw [if_pos e] at h
   cases h
   rw [<- e];exact cZ
  ·rw [if_neg e] at h;exact gk _ (ih h)
theorem rF {c:Tab} (h:∀ p∈c,1<=p.2) (k:Int):0<=low c k:=by
 unfold low
 cases e:look c k with
 | none=>exact cP 0
 | some v=>have:=h _ (aeG e);simp at this ⊢; lia
theorem aar (c:Tab) (k v:Int):keys (c.map fun p=>if p.1=k then (p.1,v) else p)=keys c:=by
 unfold keys
 rw [mY]
 apply Mu
 intro p _
 show (if p.1=k then (p.1,v) else p).1=p.1
 split <;> rfl
theorem Ox {c:Tab} {k v:Int} (h:k∈keys c):put c k v=c.map fun p=>if p.1=k then (p.1,v) else p:=by
 unfold put;rw [if_pos ((Zi c k).mpr h)]
theorem Es {c:Tab} {k v:Int} (h:k∉keys c):put c k v=c++[(k,v)]:=by
 unfold put;rw [if_neg (fun z=>h ((Zi c k).mp z))]
theorem aeH (c:Tab) (k v:Int):keys (put c k v)=if k∈keys c then keys c else keys c++[k]:=by
 by_cases h:k∈keys c
 ·rw [if_pos h,Ox h,aar]
 ·rw [if_neg h,Es h];simp [keys]
theorem Oz {c:Tab} (hn:(keys c).Nodup) (k v:Int):(keys (put c k v)).Nodup:=by
 rw [aeH]
 by_cases h:k∈keys c
 ·rw [if_pos h];exact hn
 ·rw [if_neg h,T7]
  refine ⟨hn,by simp,?_⟩
  intro a ha b hb e
  rw [d8] at hb
  exact h (by rw [<- hb,<- e];exact ha)
theorem Zj (c:Tab) (k v:Int):(put c k v).length<=c.length+1:=by
 unfold put
 split
 ·rw [bA];lia
 ·rw [dh];simp
theorem aas (c:Tab) (k v j:Int):look (c.map fun p=>if p.1=k then (p.1,v) else p) j=(look c j).map fun x=>if j=k then v else x:=by
 induction c with
 | nil=>rfl
 | cons p r ih =>
  rw [f9,iT,iT,ih]
  by_cases h:p.1=k
  ·rw [if_pos h]
   by_cases e:p.1=j
   ·rw [if_pos e,if_pos e,adE,if_pos (e.symm.trans h)]
   ·rw [if_neg e,if_neg e]
  ·rw [if_neg h]
   by_cases e:p.1=j
   ·rw [if_pos e,if_pos e,adE,if_neg (fun z=>h (e.trans z))]
   ·rw [if_neg e,if_neg e]
theorem aat (c:Tab) (k v j:Int) (h:k∉keys c):look (c++[(k,v)]) j=if j=k then some v else look c j:=by
 induction c with
 | nil =>
  rw [Ue,iT]
  by_cases e:k=j
  ·rw [if_pos e,if_pos e.symm]
  ·rw [if_neg e,if_neg (fun z=>e z.symm)]
 | cons p r ih =>
  have hk:¬ p.1=k:=fun z=>h (by simp [keys,z])
  have hr:k∉keys r:=fun z=>h (gk _ z)
  rw [List.cons_append,iT,iT,ih hr]
  by_cases e:p.1=j
  ·rw [if_pos e,if_pos e,if_neg (fun z=>hk (e.trans z))]
  ·rw [if_neg e,if_neg e]
theorem aeI (c:Tab) (k v j:Int):look (put c k v) j=if j=k then some v else look c j:=by
 by_cases h:k∈keys c
 ·rw [Ox h,aas]
  by_cases e:j=k
  ·subst e
   cases q:look c j with
   | none=>exact absurd h ((v9 c j).mp q)
   | some x=>simp
  ·simp only [if_neg e]
   cases look c j <;> rfl
 ·rw [Es h,aat c k v j h]
theorem OD (c:Tab) (k v j:Int):low (put c k v) j=if j=k then v else low c j:=by
 unfold low
 rw [aeI]
 split <;> rfl
theorem OJ {c:Tab} (h:∀ p∈c,1<=p.2) {k v:Int} (hv:1<=v):∀ p∈put c k v,1<=p.2:=by
 intro p hp
 unfold put at hp
 split at hp
 ·obtain ⟨q,hq,e⟩:=jV.mp hp
  by_cases z:q.1=k
  ·rw [if_pos z] at e;subst e;exact hv
  ·rw [if_neg z] at e;subst e;exact h q hq
 ·rcases dg.mp hp with z | z
  ·exact h p z
  ·rw [d8] at z;subst z;exact hv
theorem aeJ {c:Tab} (hn:(keys c).Nodup) {k v:Int} (h:k∈keys c):(vals (c.map fun p=>if p.1=k then (p.1,v) else p)).sum=(vals c).sum-low c k+v:=by
 induction c with
 | nil=>cases h
 | cons p r ih =>
  have hn':(p.1::keys r).Nodup:=hn
  rw [jT] at hn'
  rw [uJ]
  by_cases e:p.1=k
  ·have hr:k∉keys r:=e ▸ hn'.1
   have id_r:(r.map fun p=>if p.1=k then (p.1,v) else p)=r:=by
    have:∀ q∈r,(if q.1=k then (q.1,v) else q)=q:=fun q hq=>if_neg (fun (z:q.1=k)=>hr (z ▸ jV.mpr ⟨q,hq,rfl⟩))
    exact (Mu this).trans (acn r)
   rw [f9,if_pos e,if_pos e,id_r]
   simp only [vals,f9,lR];lia
  ·have hr:k∈keys r:=by
    rcases cU.mp h with z | z
    ·exact absurd z.symm e
    ·exact z
   rw [f9,if_neg e,if_neg e]
   have:=ih hn'.2 hr
   simp only [vals,f9,lR] at this ⊢; lia
theorem Zk {c:Tab} (hn:(keys c).Nodup) (k w:Int):(vals (put c k (low c k+w))).sum=(vals c).sum+w:=by
 by_cases h:k∈keys c
 ·rw [Ox h,aeJ hn h];lia
 ·rw [Es h,nH h]
  simp only [vals,dN,f9,Mz,Ug,lR,List.sum_nil];lia
theorem O1 {c:Tab} {cut k:Int} (h:k∈keys (dD c cut)):k∈keys c:=by
 unfold keys dD at h
 rw [mY] at h
 obtain ⟨p,hp,e⟩:=jV.mp h
 exact jV.mpr ⟨p,(xr.mp hp).1,e⟩
theorem aeK (c:Tab) (cut:Int):keys (dD c cut)=keys (c.filter fun p=>decide (cut<p.2)):=by
 unfold keys dD;rw [mY];rfl
theorem ajV {c:Tab} (hn:(keys c).Nodup) (cut:Int):(keys (dD c cut)).Nodup:=by
 rw [aeK]
 exact adT (adW _ List.filter_sublist) hn
theorem agC (c:Tab) (cut:Int):∀ p∈dD c cut,1<=p.2:=by
 intro p hp
 unfold dD at hp
 obtain ⟨q,hq,e⟩:=jV.mp hp
 have:=of_decide_eq_true (xr.mp hq).2
 subst e
 show 1<=q.2-cut
 lia
theorem agD (c:Tab) (cut:Int):(dD c cut).length<=c.length:=by
 unfold dD;rw [bA];exact Bf _ _
theorem aeL {c:Tab} (h:∀ p∈c,1<=p.2):dD c 0=c:=by
 unfold dD
 rw [TQ.mpr (fun p hp=>decide_eq_true (by have:=h p hp;lia))]
 have:∀ p∈c,(p.1,p.2-0)=p:=fun p _=>by rw [Int.sub_zero]
 exact (Mu this).trans (acn c)
theorem Zm {c:Tab} (hn:(keys c).Nodup) {cut:Int} (hc:0<=cut) (hp:∀ p∈c,0<=p.2) (k:Int):low (dD c cut) k=if low c k-cut<=0 then 0 else low c k-cut:=by
 induction c with
 | nil=>rw [show dD [] cut=[] from rfl,Er];split <;> lia
 | cons p r ih =>
  have hn':(p.1::keys r).Nodup:=hn
  rw [jT] at hn'
  have ih':=ih hn'.2 (fun q hq=>hp q (gk _ hq))
  by_cases h:cut<p.2
  ·have e:dD (p::r) cut=(p.1,p.2-cut)::dD r cut:=by
    unfold dD;rw [tY,if_pos (decide_eq_true h)];rfl
   rw [e,uJ,uJ,ih']
   by_cases z:p.1=k
   ·rw [if_pos z,if_pos z,if_neg tb_g%]
   ·rw [if_neg z,if_neg z]
  ·have e:dD (p::r) cut=dD r cut:=by
    unfold dD;rw [tY,if_neg (by simp;lia)]
   rw [e,uJ,ih']
   by_cases z:p.1=k
   ·rw [if_pos z,if_pos (show p.2-cut<=0 by lia)]
    have:low r k=0:=nH (z ▸ hn'.1)
    rw [this];split <;> lia
   ·rw [if_neg z]
theorem tD:∀ {d:List Int} {room:Nat} {c:Int},d.Pairwise (· >= ·)->d[room]? = some c->(d.filter fun v=>decide (c<v)).length<=room
 | [],_,_,_,h=>by cases h
 | x::r,0,c,hp,h=>by
  have e:x=c:=by simpa using h
  subst e
  have:((x::r).filter fun v=>decide (x<v))=[]:=by
   rw [CT]
   intro v hv
   rcases cU.mp hv with z | z
   ·subst z;simp
   ·have:=(iV.mp hp).1 v z
    simp;lia
  rw [this];exact bV _
 | x::r,n+1,c,hp,h=>by
  have ih:=tD (d:=r) (room:=n) (c:=c) (iV.mp hp).2 (by simpa using h)
  rw [tY]
  split
  ·simp only [iY];lia
  ·lia
noncomputable def above (c:Int) (l:List Int):Int:=((l.filter fun v=>decide (c<v)).map fun v=>v-c).sum
theorem yh (c x:Int) (r:List Int):above c (x::r)=(if c<x then x-c else 0)+above c r:=by
 unfold above
 rw [tY]
 by_cases h:c<x
 ·rw [if_pos (decide_eq_true h),if_pos h];rfl
 ·rw [if_neg (by simp;lia),if_neg h];lia
theorem Kf {c:Int}:∀ {l:List Int},(∀ v∈l,v<=c)->above c l=0
 | [],_=>rfl
 | x::r,h=>by
  rw [yh,Kf (l:=r) fun v hv=>h v (gk _ hv)]
  have:=h x cZ
  rw [if_neg tb_g%];rfl
theorem Hq:∀ {l:List Int},(∀ v∈l,0<=v)->0<=l.sum
 | [],_=>cP 0
 | x::r,h=>by
  have:=Hq (l:=r) fun v hv=>h v (gk _ hv)
  have:=h x cZ
  rw [lR];lia
theorem Hr:∀ {d:List Int} {room:Nat} {c:Int},d.Pairwise (· >= ·)->d[room]? = some c->(∀ v∈d,0<=v) ->
  above c d+((room:Int)+1)*c<=d.sum/\(d.length=room+1->above c d+((room:Int)+1)*c=d.sum)
 | [],_,_,_,h,_=>by cases h
 | x::r,0,c,hp,h,h0=>by
  have e:x=c:=by simpa using h
  subst e
  have hr:∀ v∈r,v<=x:=fun v hv=>(iV.mp hp).1 v hv
  have hs:=Hq (l:=r) fun v hv=>h0 v (gk _ hv)
  rw [yh,if_neg tb_g%,Kf hr,lR]
  refine ⟨by simp;lia,fun hl=>?_⟩
  have:r=[]:=by
   have:r.length=0:=by simpa using hl
   exact vX.mp this
  subst this;simp
 | x::r,n+1,c,hp,h,h0=>by
  have h':r[n]? = some c:=by simpa using h
  have ih:=Hr (d:=r) (room:=n) (c:=c) (iV.mp hp).2 h' fun v hv=>h0 v (gk _ hv)
  have hx:c<=x:=(iV.mp hp).1 c (List.mem_of_getElem? h')
  have hm:((n+1:Nat):Int)=(n:Int)+1:=by lia
  have e2:((((n+1:Nat):Int))+1)*c=((n:Int)+1)*c+c:=by rw [hm,Vh ((n:Int)+1) 1 c,adh]
  rw [yh,lR,e2]
  have ex:(if c<x then x-c else 0)=x-c:=by split <;> lia
  rw [ex]
  refine ⟨by have:=ih.1;lia,fun hl=>?_⟩
  have:=ih.2 (by simpa using hl)
  lia
theorem QT (c:Tab) (cut:Int):vals (dD c cut)=(((vals c).filter fun v=>decide (cut<v)).map fun v=>v-cut):=by
 induction c with
 | nil=>rfl
 | cons p r ih =>
  have hv:vals (p::r)=p.2::vals r:=rfl
  rw [hv]
  by_cases h:cut<p.2
  ·have e:dD (p::r) cut=(p.1,p.2-cut)::dD r cut:=by
    unfold dD;rw [tY,if_pos (decide_eq_true h)];rfl
   rw [e,tY,if_pos (decide_eq_true h),f9,<- ih];rfl
  ·have e:dD (p::r) cut=dD r cut:=by
    unfold dD;rw [tY,if_neg (by simp;lia)]
   rw [e,tY,if_neg (by simp;lia),ih]
theorem agE (c:Tab) (cut:Int):(vals (dD c cut)).sum=above cut (vals c):=by rw [QT];rfl
theorem QV {l l':List Int} (h:l.Perm l'):l.sum=l'.sum:=by
 induction h with
 | nil=>rfl
 | cons x _ ih=>rw [lR,lR,ih]
 | swap x y l=>simp only [lR];lia
 | trans _ _ a b=>exact a.trans b
theorem XJ {c:Int} {l l':List Int} (h:l.Perm l'):above c l=above c l':=by
 unfold above;exact QV ((h.filter _).map _)
structure IsCut (room:Nat) (c:Tab) (cut:Int):Prop where
 ex:∃ d:List Int,d.Perm (vals c)/\d.Pairwise (· >= ·)/\d[room]? = some cut
theorem IsCut.mem {room:Nat} {c:Tab} {cut:Int} (h:IsCut room c cut):cut∈vals c:=by
 obtain ⟨d,h1,_,h3⟩:=h
 exact h1.mem_iff.mp (List.mem_of_getElem? h3)
theorem IsCut.len {room:Nat} {c:Tab} {cut:Int} (h:IsCut room c cut):(dD c cut).length<=room:=by
 obtain ⟨d,h1,h2,h3⟩:=h
 have e:(dD c cut).length=((vals c).filter fun v=>decide (cut<v)).length:=by
  have:=congrArg jG (QT c cut)
  rw [bA] at this
  rw [<- this];unfold vals;rw [bA]
 rw [e,<- (h1.filter _).length_eq]
 exact tD h2 h3
theorem IsCut.sum {room:Nat} {c:Tab} {cut:Int} (h:IsCut room c cut) (h0:∀ p∈c,0<=p.2) :
  (vals (dD c cut)).sum+((room:Int)+1)*cut<=(vals c).sum/\(c.length=room+1->(vals (dD c cut)).sum+((room:Int)+1)*cut=(vals c).sum):=by
 obtain ⟨d,h1,h2,h3⟩:=h
 rw [agE,<- XJ h1,<- QV h1]
 have hd:∀ v∈d,0<=v:=fun v hv=>by
  obtain ⟨p,hp,e⟩:=jV.mp (h1.mem_iff.mp hv)
  rw [<- e];exact h0 p hp
 have:=Hr h2 h3 hd
 refine ⟨this.1,fun hl=>this.2 ?_⟩
 rw [h1.length_eq];unfold vals;rw [bA];exact hl
noncomputable def lW (room:Nat) (c:Tab) (c':Tab) (cut:Int):Prop :=
 if c.length<=room then cut=0/\c'=c else IsCut room c cut/\c'=dD c cut
structure Ok (room:Nat) (c:Tab) (total lost:Int) (tw:Int->Int):Prop where
 nd:(keys c).Nodup
 pos:∀ p∈c,1<=p.2
 len:c.length<=room
 l0:0<=lost
 sum:(vals c).sum+((room:Int)+1)*lost<=total
 lo:∀ k,low c k<=tw k
 hi:∀ k,tw k<=low c k+lost
structure Pre (room:Nat) (c:Tab) (total lost:Int) (tw:Int->Int):Prop where
 nd:(keys c).Nodup
 pos:∀ p∈c,1<=p.2
 l0:0<=lost
 sum:(vals c).sum+((room:Int)+1)*lost<=total
 lo:∀ k,low c k<=tw k
 hi:∀ k,tw k<=low c k+lost
theorem lW.nn {room:Nat} {c c':Tab} {cut:Int} (f:lW room c c' cut) (hp:∀ p∈c,1<=p.2):0<=cut:=by
 unfold lW at f
 by_cases e:c.length<=room
 ·rw [if_pos e] at f;lia
 ·rw [if_neg e] at f
  obtain ⟨p,hp',e'⟩:=jV.mp f.1.mem
  have:=hp p hp'
  lia
theorem Pre.fit {room:Nat} {c c':Tab} {total lost cut:Int} {tw:Int->Int} (h:Pre room c total lost tw) (f:lW room c c' cut):Ok room c' total (lost+cut) tw:=by
 have hc:=f.nn h.pos
 unfold lW at f
 by_cases e:c.length<=room
 ·rw [if_pos e] at f
  obtain ⟨rfl,rfl⟩:=f
  refine ⟨h.nd,h.pos,e,by have:=h.l0;lia,by rw [Bw];exact h.sum,h.lo,fun k=>by have:=h.hi k;lia⟩
 ·rw [if_neg e] at f
  obtain ⟨f,rfl⟩:=f
  have hs:=(f.sum fun p hp=>by have:=h.pos p hp;lia).1
  have h0:∀ p∈c,0<=p.2:=fun p hp=>by have:=h.pos p hp;lia
  refine ⟨ajV h.nd _,agC _ _,f.len,by have:=h.l0;lia,?_,fun k=>?_,fun k=>?_⟩
  ·rw [Vi];have:=h.sum;lia
  ·rw [Zm h.nd hc h0 k]
   have:=h.lo k;have:=rF h.pos k;split <;> lia
  ·rw [Zm h.nd hc h0 k]
   have:=h.hi k;split <;> lia
theorem Ok.pre {room:Nat} {c:Tab} {total lost:Int} {tw:Int->Int} (h:Ok room c total lost tw):Pre room c total lost tw:=⟨h.nd,h.pos,h.l0,h.sum,h.lo,h.hi⟩
theorem Ok.add {room:Nat} {c:Tab} {total lost k w:Int} {tw:Int->Int} (h:Ok room c total lost tw) (hw:1<=w) :
  Pre room (put c k (low c k+w)) (total+w) lost (fun j=>if j=k then tw j+w else tw j):=by
 refine ⟨Oz h.nd _ _,OJ h.pos (by have:=rF h.pos k;lia),h.l0,by rw [Zk h.nd];have:=h.sum;lia,fun j=>?_,fun j=>?_⟩
 ·rw [OD]
  have:=h.lo j
  by_cases e:j=k
  ·subst e;rw [if_pos rfl,if_pos rfl];lia
  ·rw [if_neg e,if_neg e];exact this
 ·rw [OD]
  have:=h.hi j
  by_cases e:j=k
  ·subst e;rw [if_pos rfl,if_pos rfl];lia
  ·rw [if_neg e,if_neg e];exact this
noncomputable def nJ (c d:Tab):Tab:=d.foldl (fun acc p=>put acc p.1 (low acc p.1+p.2)) c
theorem Hs (c:Tab):nJ c []=c:=rfl
theorem qF (c:Tab) (p:Int × Int) (d:Tab):nJ c (p::d)=nJ (put c p.1 (low c p.1+p.2)) d:=rfl
theorem aau (c d:Tab) (p:Int × Int):nJ c (d++[p])=put (nJ c d) p.1 (low (nJ c d) p.1+p.2):=by
 unfold nJ;rw [ab6];rfl
theorem O2:∀ (d:Tab) {c:Tab},(keys c).Nodup->(keys (nJ c d)).Nodup
 | [],_,h=>h
 | p::d,c,h=>by rw [qF];exact O2 d (Oz h _ _)
theorem Ht:∀ (d:Tab) {c:Tab},(∀ p∈c,1<=p.2)->(∀ p∈d,1<=p.2)->∀ p∈nJ c d,1<=p.2
 | [],_,h,_=>h
 | q::d,c,h,hd=>by
  rw [qF]
  refine Ht d (OJ h ?_) fun p hp=>hd p (gk _ hp)
  have:=rF h q.1;have:=hd q cZ;lia
theorem zq:∀ (d c:Tab),(nJ c d).length<=c.length+d.length
 | [],c=>by rw [Hs];simp
 | p::d,c=>by
  rw [qF]
  have:=zq d (put c p.1 (low c p.1+p.2));have:=Zj c p.1 (low c p.1+p.2)
  simp only [iY];lia
theorem Hu:∀ (d:Tab) (c:Tab) (k:Int),(keys d).Nodup->low (nJ c d) k=low c k+low d k
 | [],c,k,_=>by rw [Hs,Er];lia
 | p::d,c,k,h=>by
  have h':(p.1::keys d).Nodup:=h
  rw [jT] at h'
  rw [qF,Hu d _ k h'.2,OD,uJ]
  by_cases e:k=p.1
  ·rw [if_pos e,if_pos e.symm,e,nH h'.1];lia
  ·rw [if_neg e,if_neg (fun z=>e z.symm)]
theorem Kg:∀ (d:Tab) {c:Tab},(keys c).Nodup->(vals (nJ c d)).sum=(vals c).sum+(vals d).sum
 | [],c,_=>by rw [Hs];simp [vals]
 | p::d,c,h=>by
  rw [qF,Kg d (Oz h _ _),Zk h]
  simp only [vals,f9,lR];lia
theorem Ok.aeM {room:Nat} {c d:Tab} {t l t' l':Int} {tw tw':Int->Int} (h:Ok room c t l tw) (h':Ok room d t' l' tw') :
  Pre room (nJ c d) (t+t') (l+l') (fun k=>tw k+tw' k):=by
 refine ⟨O2 d h.nd,Ht d h.pos h'.pos,by have:=h.l0;have:=h'.l0;lia,?_,fun k=>?_,fun k=>?_⟩
 ·rw [Kg d h.nd,Vi];have:=h.sum;have:=h'.sum;lia
 ·rw [Hu d c k h'.nd];have:=h.lo k;have:=h'.lo k;lia
 ·rw [Hu d c k h'.nd];have:=h.hi k;have:=h'.hi k;lia
theorem Ok.empty (room:Nat):Ok room [] 0 0 (fun _=>0) :=
 ⟨ud,(fun _ h=>by cases h),cB _,cP 0,by simp [vals],fun k=>by rw [Er];exact cP 0,fun k=>by rw [Er];exact cP 0⟩
end MG
set_option autoImplicit false
namespace MK
noncomputable def Jr (r:Int) (h:Nat):Prop:=∃ m:Int,r=m*2 ^ h/\m % 2=1
theorem jh (n:Nat):(0:Int)<2 ^ n:=Vj (by decide)
theorem Jr.uniq {r:Int} {h k:Nat} (a:Jr r h) (b:Jr r k):h=k:=by
 have key:∀ {h k:Nat} {m n:Int},h<k->m*2 ^ h=n*2 ^ k->m % 2=1->False:=by
  intro h k m n hlt e hm
  obtain ⟨d,rfl⟩:∃ d,k=h+(d+1):=⟨k-h-1,by lia⟩
  rw [Vk,<- xQ,ac6] at e
  have e2:=Int.eq_of_mul_eq_mul_right (ada (jh h)) e
  rw [pY,<- xQ] at e2
  lia
 obtain ⟨m,e1,h1⟩:=a
 obtain ⟨n,e2,h2⟩:=b
 rcases acD h k with l | l | l
 ·exact (key l (e1.symm.trans e2) h1).elim
 ·exact l
 ·exact (key l (e2.symm.trans e1) h2).elim
noncomputable def To (r x:Int) (i:Nat):Prop:=r=x*2 ^ i/\x≠0
theorem To.step {r x:Int} {i:Nat} (h:To r x i) (e:x % 2=0):To r (x / 2) (i+1):=by
 obtain ⟨h1,h2⟩:=h
 have hx:x=x / 2*2:=by lia
 refine ⟨?_,by lia⟩
 rw [h1,pY,Vf (2 ^ i) 2,<- xQ,<- hx]
theorem To.stop {r x:Int} {i:Nat} (h:To r x i) (e:¬ x % 2=0):Jr r i:=⟨x,h.1,by lia⟩
noncomputable def M:Int:=1152921504606846976
theorem ahQ:(2:Int) ^ 60=1152921504606846976:=by decide
theorem Jr.ne {r:Int} {h:Nat} (a:Jr r h):r≠0:=by
 obtain ⟨m,e,hm⟩:=a
 intro z
 rw [z] at e
 rcases Int.mul_eq_zero.mp e.symm with q | q
 ·lia
 ·exact absurd q (ada (jh h))
theorem Jr.lt {r:Int} {h:Nat} (a:Jr r h) (h0:0<=r) (h1:r<1152921504606846976):h<60:=by
 obtain ⟨m,e,hm⟩:=a
 rcases jW h 60 with q | q
 ·exact q
 ·obtain ⟨d,rfl⟩:∃ d,h=60+d:=⟨h-60,by lia⟩
  exfalso
  rw [Vk,ahQ] at e
  have hd:=jh d
  rcases adb m 0 with l | l
  ·have:m*(1152921504606846976*2 ^ d)<0:=ac3 l tb_g%
   lia
  ·have h3:1*(1152921504606846976*1)<=m*(1152921504606846976*2 ^ d):=ac8 tb_g% tb_g% tb_g% tb_g%
   lia
theorem To.lt {r x:Int} {i:Nat} (h:To r x i) (h0:0<r) (h1:r<1152921504606846976):i<60/\0<x/\x<=r:=by
 obtain ⟨e,hx⟩:=h
 have hp:=jh i
 have x0:0<x:=by
  rcases adb x 0 with l | l
  ·have:x*2 ^ i<0:=ac3 l hp
   lia
  ·lia
 refine ⟨?_,x0,?_⟩
 ·rcases jW i 60 with q | q
  ·exact q
  ·obtain ⟨d,rfl⟩:∃ d,i=60+d:=⟨i-60,by lia⟩
   exfalso
   rw [Vk,ahQ] at e
   have hd:=jh d
   have h3:1*(1152921504606846976*1)<=x*(1152921504606846976*2 ^ d):=ac8 tb_g% tb_g% tb_g% tb_g%
   lia
 ·have h3:x*1<=x*2 ^ i:=Int.mul_le_mul_of_nonneg_left tb_g% tb_g%
  lia
end MK
set_option autoImplicit true
namespace L2
open PySem MG
noncomputable def emb (c:Tab):List (Key × V):=c.map fun p=>((Sum.inl p.1:Key),V.int p.2)
theorem rG (c:Tab):(emb c).length=c.length:=bA _
theorem QW (c:Tab):(emb c).map (·.2)=(vals c).map V.int:=by
 unfold emb vals;rw [mY,mY];rfl
theorem aeN {c:Tab} {i:Nat} {p:Key × V} (h:(emb c)[i]? = some p):∃ q,c[i]? = some q/\p=(Sum.inl q.1,V.int q.2):=by
 unfold emb at h
 rw [iB] at h
 cases e:c[i]? with
 | none=>rw [e] at h;cases h
 | some q=>rw [e] at h;exact ⟨q,rfl,(dB h).symm⟩
theorem Et {a b:Int}:((Sum.inl a:Key)=Sum.inl b)↔a=b:=⟨fun h=>ad0 h,fun h=>by rw [h]⟩
theorem aeO (c:Tab) (k:Int):Cj (emb c) (Sum.inl k:Key)=(look c k).map V.int:=by
 induction c with
 | nil=>rfl
 | cons p r ih =>
  have e:emb (p::r)=(Sum.inl p.1,V.int p.2)::emb r:=rfl
  rw [e,iT]
  by_cases h:p.1=k
  ·rw [zf (p:=((Sum.inl p.1:Key),V.int p.2)) (Et.mpr h),if_pos h];rfl
  ·rw [zj (p:=((Sum.inl p.1:Key),V.int p.2)) (fun z=>h (Et.mp z)),if_neg h,ih]
theorem Zn (c:Tab) (k:Int):(Cj (emb c) (Sum.inl k:Key)).getD (.int 0) = .int (low c k):=by
 rw [aeO];unfold low
 cases look c k <;> rfl
theorem agF (c:Tab) (k:Int):((emb c).any fun kv=>decide (kv.1=(Sum.inl k:Key)))=c.any fun p=>decide (p.1=k):=by
 induction c with
 | nil=>rfl
 | cons p r ih =>
  have e:emb (p::r)=(Sum.inl p.1,V.int p.2)::emb r:=rfl
  rw [e,xG,xG,ih]
  congr 1
  by_cases h:p.1=k
  ·rw [decide_eq_true h,decide_eq_true (Et.mpr h)]
  ·rw [decide_eq_false h,decide_eq_false (fun z=>h (Et.mp z))]
theorem Hv (c:Tab) (k v:Int):putK (emb c) (Sum.inl k:Key) (.int v)=emb (put c k v):=by
 unfold putK put
 rw [agF]
 by_cases h:(c.any fun p=>decide (p.1=k))=true
 ·rw [if_pos h,if_pos h]
  unfold emb
  rw [mY,mY]
  apply Mu
  intro p _
  by_cases e:p.1=k
  ·simp [e]
  ·simp [e]
 ·rw [if_neg h,if_neg h]
  unfold emb
  rw [dN];rfl
noncomputable def But (p:Addr) (H H':Hp):Prop:=∀ b o,H b=some o->b≠p->H' b=some o
theorem Same.but {H H':Hp} (h:Same H H') (p:Addr):But p H H':=fun b o e _=>h b o e
theorem But.trans {p:Addr} {H H1 H2:Hp} (a:But p H H1) (b:But p H1 H2):But p H H2:=fun c o h n=>b c o (a c o h n) n
theorem But.upd {p:Addr} {H:Hp} {o:HO}:But p H (upd H p o):=fun b u h n=>by rw [au n];exact h
theorem Same.new {H:Hp} {p:Addr} {o:HO} (h:H p=none):Same H (upd H p o):=fun b u e=>by rw [au (ak e h)];exact e
section
variable {K:bh} {H:Hp} {Q:VK}
theorem rdF {a C dx:Addr} {fs:List (Str × V)} {f:Str} {v:V} (h:H a=some (.ins C dx fs)) (c:Cls K C) (n:cN K C f) (l:fs.lookup f=some v) (q:Q v H):rFld K f (.ref a) H Q:=⟨a,C,dx,fs,v,rfl,h,c,n,l,q⟩
theorem dO {a:Addr} {xs:List V} {i:Int} {v:V} (h:SqL K H a xs) (e:atI xs i=some v) (q:Q v H):vR K (.ref a) (.int i) H Q:=.inl ⟨a,xs,i,v,rfl,rfl,h,e,q⟩
theorem eZ {a:Addr} {xs:List V} {i:Int} {v:V} (h:SqT K H a xs) (e:atI xs i=some v) (q:Q v H):vR K (.ref a) (.int i) H Q:=.inr (.inl ⟨a,xs,i,v,rfl,rfl,h,e,q⟩)
theorem eX {a:Addr} {xs:List V} (h:SqL K H a xs) (q:Q (.int xs.length) H):Zf K [.ref a] H Q:=.inl ⟨.ref a,xs.length,rfl,.inl ⟨xs,h,rfl⟩,q⟩
theorem ajW {a:Addr} {kvs:List (Key × V)} (h:Rd H a (.dK kvs)) (q:Q (.int kvs.length) H):Zf K [.ref a] H Q:=.inr ⟨a,kvs,rfl,h,q⟩
theorem ahR {a:Addr} {kvs:List (Key × V)} {i:Int} (h:Rd H a (.dK kvs)):Ov H a (.int i) (Cj kvs (Sum.inl i:Key)):=.inl ⟨kvs,Sum.inl i,h,rfl,rfl⟩
theorem XM {a:Addr} {kvs:List (Key × V)} {i:Int} {v:V} {R:Hp->Prop} (h:H a=some (.dK kvs)) (hl:kvs.length<sizeLine) (q:R (upd H a (.dK (putK kvs (Sum.inl i) v)))):ahP (.ref a) (.int i) v H R :=
 .inr ⟨a,_,rfl,.inl ⟨kvs,Sum.inl i,h,rfl,hl,rfl⟩,q⟩
end
theorem aeP (K:bh) (t:Value) (h:(t == t)=true):Ut K t t=some true:=by unfold Ut;rw [if_pos h]
theorem O3 {i j:Int} (h0:-(2 ^ 64)<i) (h1:i<2 ^ 64):aef i j:=.inl ⟨by lia,by lia⟩
theorem fB {i j:Int} (h0:-(2 ^ 64)<j) (h1:j<2 ^ 64):aef i j:=.inr ⟨by lia,by lia⟩
end L2
namespace L2
open PySem PySem.Spec PyProof.Rows
noncomputable def Hw (cells:List (Str × Addr)):List (Str × Addr)->Prop
 | []=>True
 | p::r=>cells.lookup p.1=some p.2/\Hw cells r
theorem Hw.of {cells:List (Str × Addr)}:∀ {cl:List (Str × Addr)} {y:Str} {c:Addr},Hw cells cl->cl.lookup y=some c->cells.lookup y=some c
 | [],_,_,_,h=>by cases h
 | p::r,y,c,hs,h=>by
  obtain ⟨n,a⟩:=p
  rw [Ua] at h
  by_cases e:y=n
  ·subst e
   rw [beq_self_eq_true] at h
   cases h
   exact hs.1
  ·rw [beq_eq_false_iff_ne.mpr e] at h
   exact Hw.of hs.2 h
@[reducible] noncomputable def dH (X:Cx) (N:List Str) (scope:Scope) (cl:List (Str × Addr)) (s:Shared) (H:Hp) (fp:List Addr) (C:Addr):Cx where
 prog:=X.prog
 w:=X.w
 K:=X.K
 mg:=X.mg
 base:=X.base
 A:=X.A
 N:=N
 s₀:=s
 H₀:=H
 env:=Mi scope cl C X.env
 outer:=X.stack
 stack:=X.stack
 ex:=fp
 fn:=fun _=>false
 calm:=X.calm
 pn:=[]
 xe:=fun _ _=>False
structure zu (X:Cx) (N:List Str) (scope:Scope) (cl:List (Str × Addr)) (i j:Nat):Prop where
 ok:∃ y c,N[i]? = some y/\X.N[j]? = some y/\(X.env.kindOf y=some .cell\/X.env.kindOf y=some .free)/\((gA scope X.env).names.lookup y=some .cell\/(gA scope X.env).names.lookup y=some .free)/\cl.lookup y=some c
noncomputable def jL (σ:St) (x:Option V) (caps:List Nat):St:=x::caps.map fun j=>(σ[j]?).join
section
variable {X:Cx} {pins:List (Addr × Obj)} {σ:St} {H:Hp} {s:Shared}
theorem Inv.comp {N:List Str} {scope:Scope} {cl:List (Str × Addr)} {fp:List Addr} {caps:List Nat} {h4:Heap} {D C:Addr} {tk:Nat} (I:Inv X pins σ H s) (hkind:scope.kind = .function) (hsub:Hw X.env.cells cl)
  (hhas:∀ y,((gA scope X.env).names.lookup y=some .cell\/(gA scope X.env).names.lookup y=some .free)->∃ c,cl.lookup y=some c) (hf:∀ b∈fp,vQ X pins H b) (hfo:∀ b∈fp,∃ o,s.heap.get? b=some o)
  (hlen:N.length=caps.length+1) (hcap:∀ (i:Nat) (j:Nat),caps[i]? = some j->zu X N scope cl (i+1) j) (hD:s.heap.objs.size<=D) (hC:s.heap.objs.size<=C) (hDC:C≠D)
  (hk:∀ b o,s.heap.get? b=some o->h4.get? b=some o) (hlist:∃ n,h4.get? D=some { cls:=.type "list",data:=.seq #[] n }) (hns:∃ m,h4.Ns C m) :
  Inv (dH X N scope cl s H fp C) (X.pn++pins) (jL σ none caps) (upd H D (.lst [])) { s with heap:=h4,toks:=tk }:=by
 have hnD:H D=none:=I.hok.fresh hD
 have hnC:H C=none:=I.hok.fresh hC
 have lt:∀ b o,s.heap.get? b=some o->b≠D/\b≠C:=fun b o e=>⟨cO (gF (bR e) hD),cO (gF (bR e) hC)⟩
 have nst:∀ b,b≠X.env.locals->b∉X.fs->b∉frs X.stack:=fun b h1 h2 z=>by
  rcases cU.mp (I.xW b z) with e | e
  ·exact h1 e
  ·exact h2 e
 refine ⟨⟨I.ok.mod,hkind,I.ok.glob,I.ok.blt,hC,fun x y c h1 h2=>I.ok.inj x y c (hsub.of h1) (hsub.of h2),fun y hy=>hhas y hy,fun y c h=>(nomatch h),I.ok.hd,I.ok.frames,.inl rfl,fun b hb=>?_,I.bs,iC I.ok.bsz I.sz,fun b o e hb=>?_,fun b hb=>?_,I.stack,I.Ep⟩,
  rfl,I.bare,Un.laid hk hD hnD,?_,fun y c e=>?_,?_,fun y c e=>?_,fun p hp=>?_,?_,?_⟩
 ·obtain ⟨o,e⟩:=hfo b hb
  exact ⟨(lt b o e).2,fun x c q=>(hf b hb).2.2.2.2.1 x c (hsub.of q)⟩
 ·rcases (hf b hb).2.2.2.1 with z | z
  ·exact I.ok.aaf b o e z
  ·exact absurd (gF (bR e) I.ok.bsz) (M8.mpr z)
 ·exact nst b (hf b hb).2.1 (hf b hb).2.2.1
 ·obtain ⟨m,hm⟩:=hns
  obtain ⟨m0,_,hl⟩:=I.loc
  refine ⟨m,hm,fun i y v h1 h2 h3=>?_⟩
  cases i with
  | zero=>cases h2
  | succ i =>
   have h2':((caps.map fun j=>(σ[j]?).join)[i]?)=some (some v):=h2
   rw [iB] at h2'
   cases ec:caps[i]? with
   | none=>rw [ec] at h2';cases h2'
   | some j =>
    rw [ec] at h2'
    have O4:(σ[j]?).join=some v:=dB h2'
    have e2:σ[j]? = some (some v):=by
     cases q:σ[j]? with
     | none=>rw [q] at O4;cases O4
     | some z=>rw [q] at O4;exact congrArg some O4
    obtain ⟨y',c,n1,n2,k1,k2,lc⟩:=(hcap i j ec).ok
    have ey:y=y':=by
     have h1':N[i+1]? = some y:=h1
     rw [n1] at h1';exact (dB h1').symm
    subst ey
    have vis:Vis X.env.scope y:=k1.elim (fun z=>.inr (.inl z)) fun z=>.inr (.inr z)
    obtain ⟨u,ru,lk⟩:=hl j y v n2 e2 vis
    refine ⟨u,ru,.inr ⟨k2,c,lc,?_⟩⟩
    rcases lk with ⟨z,_⟩ | ⟨_,c',lc',ic⟩
    ·rcases k1 with k1 | k1 <;> (rw [z] at k1;cases k1)
    ·rw [hsub.of lc] at lc'
     cases lc'
     obtain ⟨o,ho,hd⟩:=ic
     exact ⟨o,hk c o ho,hd⟩
 ·obtain ⟨v,o,ho,hd⟩:=I.cell y c (hsub.of e)
  exact ⟨v,o,hk c o ho,hd⟩
 ·show (upd H D (.lst [])) C=none
  rw [au hDC];exact hnC
 ·have n:=I.qC y c (hsub.of e)
  obtain ⟨v,o,ho,hd⟩:=I.cell y c (hsub.of e)
  rw [au (lt c o ho).1];exact n
 ·have hp':p∈X.pn++pins:=hp
  obtain ⟨e,n,ne,nf,d⟩:=I.pin p hp'
  exact ⟨hk _ _ e,by rw [au (lt _ _ e).1];exact n,(lt _ _ e).2,nst _ ne nf,d⟩
 ·obtain ⟨n,e⟩:=hlist
  exact I.hok.laid hk hD ⟨cB _,[],n,.nil,e⟩
 ·show (jL σ none caps).length=N.length
  unfold jL
  rw [iY,bA,hlen]
theorem Inv.XQ {N:List Str} {scope:Scope} {cl:List (Str × Addr)} {fp:List Addr} {C:Addr} {Y5:List (Addr × Obj)} {σ':St} {H':Hp} {s':Shared} {h':Heap} (I:Inv X pins σ H s) (hf:∀ b∈fp,vQ X pins H b) (hC:s.heap.objs.size<=C)
  (I':Inv (dH X N scope cl s H fp C) Y5 σ' H' s') (hs:uf C s'.heap h'):Inv X pins σ H' { s' with heap:=h' }:=by
 obtain ⟨hp,g,d,t,os⟩:=s'
 have eo:os=s.os:=I'.os
 subst eo
 have ne:∀ b o,s.heap.get? b=some o->b≠C:=fun b o e=>cO (gF (bR e) hC)
 have hn:H' C=none:=I'.free
 have B:Un (frs X.stack) fp H H' s.heap hp:=I'.base
 have kp:∀ b o,b≠C->hp.get? b=some o->h'.get? b=some o:=fun b o hb e=>(hs.2 b hb).trans e
 suffices r:Inv X pins σ H' { s with heap:=h',gens:=g,drawn:=d,toks:=t } from r
 refine I.call (h':=h') (g':=g) (d':=d) (t':=t) (ch:=fp) ⟨fun b o e n h1 h2=>kp b o (ne b o e) (B.keep b o e n h1 h2),fun b o e n h1 h2=>?_,B.free,fun b o e h2=>?_,B.tups,B.yV,B.DX⟩ (fun b u e=>?_) I'.bare fun b hb=>?_
 ·obtain ⟨sl,q⟩:=B.slot b o e n h1 h2
  exact ⟨sl,kp b _ (ne b o e) q⟩
 ·obtain ⟨o',q⟩:=B.there b o e h2
  exact ⟨o',kp b _ (ne b o e) q⟩
 ·have nb:∀ c v,H' c=some v->c≠C:=fun c v q z=>by rw [z,hn] at q;cases q
  refine (I'.hok b u e).stay (fun c v hc q=>kp c v ?_ q) (fun _ q=>q) fun _ _ q=>q
  rcases hc with z | z
  ·rw [z];exact nb b u e
  ·exact nb c _ z
 ·obtain ⟨f0,f1,f2,f3,f4,f5⟩:=hf b hb
  exact ⟨f3,f1,f4,f5⟩
end
noncomputable def vq (J:It) (caps:List Nat) (tt:TT) (te:TE) (σ:St) (D:Addr) (Q:VK) (H1:Hp):Prop:=∃ W:Nat->Nat->List V->Hp->Prop,(∃ m,W 0 m [] (upd H1 D (.lst [])))/\∀ i m ys H,W i m ys H ->
 H D=some (.lst ys)/\((J.stop i H/\Q (.ref D) H)\/(J.go i H/\ys.length<sizeLine/\∀ x H',J.yld i H x H'->tt (jL σ (some x) caps) H' fun b H2=>if b=true then
  te (jL σ (some x) caps) H2 fun y H3=>H3 D=some (.lst ys)/\∃ m',m'<m/\W (i+1) m' (ys++[y]) (upd H3 D (.lst (ys++[y])))
  else H2 D=some (.lst ys)/\∃ m',m'<m/\W (i+1) m' ys H2))
noncomputable def ahS (wi:TI) (caps:List Nat) (tt:TT) (te:TE):TE:=fun σ H Q=>wi σ H fun J H1=>∀ D,H1 D=none->vq J caps tt te σ D Q H1
noncomputable def PTs (X:Cx) (ifs:List Expr) (tt:TT):Prop:=∀ (pins:List (Addr × Obj)) (s:Shared) (σ:St) (H:Hp) (Q:Bool->Hp->Prop),Inv X pins σ H s->tt σ H Q ->
 wpAny (model X.prog X.w) X.A (forIn ifs true fun c r=>if r=true then do let ok <- Fz c X.env (eval c X.env);pure (ForInStep.yield ok) else pure (ForInStep.yield r)) (TP X pins σ Q) X.xe s
noncomputable def rH:TT:=fun _ H Q=>Q true H
theorem rJ {X:Cx}:PTs X [] rH:=fun _ _ _ H _ I h=>wpAny_tests_nil ⟨H,I,h⟩
theorem zx {X:Cx} {c:Expr} {tt:TT} (h:PT X c tt):PTs X [c] tt:=fun pins s σ H Q I q=>wpAny_tests_one (h pins s σ H Q I q)
section
variable {X:Cx}
theorem Hx {elt iter:Expr} {x:Str} {px:Pos} {ifs:List Expr} {scope:Scope} {pos:Pos} {cl:List (Str × Addr)} {N:List Str} {caps:List Nat} {tt:TT} {te:TE} {pins:List (Addr × Obj)} {σ:St} {H2:Hp} {s2:Shared} {Q:VK} {it:Addr} {fp:List Addr} {tn:Nat->Heap->Prop} {J:It}
  {RR:Value->Addr->j6->Shared->Prop} {E:Value->Shared->Prop} (hc:X.calm=true)
  (hcell:∀ y∈scope.names,y.2 ≠ .cell) (hkind:scope.kind = .function) (hsub:Hw X.env.cells cl)
  (hhas:∀ y,((gA scope X.env).names.lookup y=some .cell\/(gA scope X.env).names.lookup y=some .free)->∃ c,cl.lookup y=some c)
  (hN:N.Nodup) (hN0:N[0]? = some x) (hx:(gA scope X.env).names.lookup x=some .local) (hlen:N.length=caps.length+1) (hcap:∀ (i:Nat) (j:Nat),caps[i]? = some j->zu X N scope cl (i+1) j)
  (ht:∀ s H fp C,PTs (dH X N scope cl s H fp C) ifs tt) (he:∀ s H fp C,PE (dH X N scope cl s H fp C) elt te)
  (I2:Inv X pins σ H2 s2) (T:Turn X.prog X.w X.K (.Name x px) J fp it tn) (st2:tn 0 s2.heap) (f2:∀ b∈fp,vQ X pins H2 b) (w2:∀ D,H2 D=none->vq J caps tt te σ D Q H2)
  (hRR:∀ D C σ' H' s5,s2.heap.objs.size<=C->Inv (dH X N scope cl s2 H2 fp C) (X.pn++pins) σ' H' s5->Q (.ref D) H'->RR (.ref D) C (.ok .next) s5) :
  wpAny (model X.prog X.w) X.A (Mp []) (fun acc s₃=>wpAny (model X.prog X.w) X.A (abA scope X.env.globals cl [] X.env.qual none .none (some X.env)) (fun cenv s₄ =>
   gj (model X.prog X.w) X.A (.compStart (.ListComp elt [⟨.Name x px,iter,ifs,0⟩] scope pos) 0 (.ref it) acc { cenv with scope:=gA scope X.env }) (RR acc cenv.locals) s₄) E s₃) E s2:=by
 refine yK (abl hcell (by intro y hy;simp at hy) (fun h₁ hns₁ hsb₁=>?_) hkind)
 dsimp only at hns₁ hsb₁ ⊢
 generalize hH2:s2.heap.push { cls:=.type "list",dict:=none,data:=.seq ([]:List Value).toArray }=G2 at hns₁ hsb₁ ⊢
 have hC:G2.objs.size=s2.heap.objs.size+1:=by rw [<- hH2,qU]
 have hCle:s2.heap.objs.size<=G2.objs.size:=by rw [hC];exact m9 _
 have hDC:G2.objs.size≠s2.heap.objs.size:=by rw [hC];exact qW (xK _)
 have old:∀ b o,s2.heap.get? b=some o->h₁.get? b=some o:=fun b o e =>
  hsb₁.extBut b o (by rw [hC];exact cO (um (bR e))) (dR _ (hH2 ▸ dR _ e))
 have hacc:∃ n,h₁.get? s2.heap.objs.size=some { cls:=.type "list",data:=.seq #[] n }:=⟨_,hsb₁.extBut _ _ (aK hDC) (dR _ (hH2 ▸ eE _ rfl))⟩
 have hnD:H2 s2.heap.objs.size=none:=I2.hok.fresh (bV _)
 obtain ⟨W,⟨m0,w0⟩,turn⟩:=w2 s2.heap.objs.size hnD
 have fo:∀ b∈fp,∃ o,s2.heap.get? b=some o:=fun b hb=>by
  obtain ⟨o,e,_⟩:=T.obj _ _ st2 b hb
  exact ⟨o,e⟩
 have I3:Inv (dH X N scope cl s2 H2 fp G2.objs.size) (X.pn++pins) (jL σ none caps) (upd H2 s2.heap.objs.size (.lst [])) { s2 with heap:=h₁,toks:=s2.toks+([]:List (Str × Value)).length } :=
  I2.comp hkind hsub hhas f2 fo hlen hcap (bV _) hCle hDC old hacc ⟨_,hns₁⟩
 have st3:tn 0 h₁:=T.keep _ _ _ st2 fun b _ o e=>old b o e
 have nf:∀ b∈fp,b≠s2.heap.objs.size:=fun b hb=>by
  obtain ⟨o,e⟩:=fo b hb
  exact cO (bR e)
 have stat:∀ {H':Hp},(∀ b∈fp,H' b=none)->∀ b∈fp,vQ (dH X N scope cl s2 H2 fp G2.objs.size) (X.pn++pins) H' b:=fun {H'} hn b hb=>by
  obtain ⟨f0,f1,f2',f3,f4,f5⟩:=f2 b hb
  obtain ⟨o,e⟩:=fo b hb
  refine ⟨hn b hb,cO (gF (bR e) hCle),fun z=>?_,.inl hb,fun y c q=>f4 y c (hsub.of q),fun p hp=>f5 p hp⟩
  rcases cU.mp (I2.xW b z) with q | q
  ·exact f1 q
  ·exact f2' q
 have loop:gj (model X.prog X.w) X.A (.compLoop (.ListComp elt [⟨.Name x px,iter,ifs,0⟩] scope pos) 0 (.ref it) (.ref s2.heap.objs.size) (Mi scope cl G2.objs.size X.env))
   (RR (.ref s2.heap.objs.size) G2.objs.size) { s2 with heap:=h₁,toks:=s2.toks+([]:List (Str × Value)).length }:=by
  refine codeAny_compLoop_tests (fun n s'=>∃ i ys σ' H',Inv (dH X N scope cl s2 H2 fp G2.objs.size) (X.pn++pins) σ' H' s'/\(∃ z,σ'=jL σ z caps)/\tn i s'.heap/\(∀ b∈fp,H' b=none)/\W i n ys H') ?_ m0
   ⟨0,[],_,_,I3,⟨none,rfl⟩,st3,fun b hb=>by rw [au (nf b hb)];exact (f2 b hb).1,w0⟩
  rintro n s' ⟨i,ys,σ',H',I',⟨z,rfl⟩,st',fr',w'⟩
  obtain ⟨hl,ends⟩:=turn i n ys H' w'
  rcases ends with ⟨stop,q⟩ | ⟨go,hsz,step⟩
  ·refine fO (T.done (dH X N scope cl s2 H2 fp G2.objs.size) rfl rfl rfl hc i _ s' _ H' (fun _ _=>False) I' (stat fr') st' stop) (fun r s5 ⟨hr,I5⟩=>?_) fun _ _ f=>f.elim
   subst hr
   exact hRR _ _ _ _ _ hCle I5 q
  ·refine fO (T.item (dH X N scope cl s2 H2 fp G2.objs.size) rfl rfl rfl hc i _ s' _ H' (fun _ _=>False) I' (stat fr') st' go) (fun r s5 ⟨u,hr,h5⟩=>?_) fun _ _ f=>f.elim
   subst hr
   show wpAny _ _ (Fp (.Name x px) (.ref it) u >>= fun _=>pP (.Name x px) (Mi scope cl G2.objs.size X.env) u) _ _ _
   refine aG (fO h5 (fun _ s6 ⟨y,H6,I6,r6,y6,st6,fr6⟩=>?_) fun _ _ f=>f.elim)
   have I6':=I6.pinned (stat fr6) (T.obj _ _ st6)
   have hg:PG (dH X N scope cl s2 H2 fp G2.objs.size) (.Name x px) (uG 0):=gM hN hN0 (.inl hx) (.inr hx)
   have again:∀ {σ7:St} {H7:Hp} {s7:Shared},Inv (dH X N scope cl s2 H2 fp G2.objs.size) ((X.pn++pins)++Ce fp s6.heap) σ7 H7 s7->tn (i+1) s7.heap/\∀ b∈fp,H7 b=none:=fun {σ7 H7 s7} I7=>by
    refine ⟨T.keep _ _ _ st6 fun b hb o e=>(I7.pin (b,o) (lD _ (lD _ (j9 hb e)))).1,fun b hb=>?_⟩
    obtain ⟨o,e,d⟩:=T.obj _ _ st6 b hb
    exact (I7.pin (b,o) (lD _ (lD _ (j9 hb e)))).2.1
   refine fO (hg _ s6 _ H6 y u (fun σ7 H7=>σ7=jL σ (some y) caps/\H7=H6) I6' r6 ⟨rfl,rfl⟩) (fun _ s7 ⟨σ7,H7,I7,e7,e7'⟩=>?_) fun _ _ f=>f.elim
   subst e7 e7'
   refine fO (ht s2 H2 fp G2.objs.size _ s7 _ _ _ I7 (step y H7 y6)) (fun ok s8 ⟨H8,I8,q8⟩=>?_) fun _ _ f=>f.elim
   cases ok with
   | false =>
    obtain ⟨_,m',hm,w8⟩:=q8
    have a8:=again I8
    exact ⟨m',hm,i+1,ys,_,H8,I8.nG,⟨_,rfl⟩,a8.1,a8.2,w8⟩
   | true =>
    refine fO (he s2 H2 fp G2.objs.size _ s8 _ _ _ I8 q8) (fun x9 s9 ⟨y9,H9,I9,r9,l9,m',hm,w9⟩=>?_) fun _ _ f=>f.elim
    refine fO (jE (X:=dH X N scope cl s2 H2 fp G2.objs.size) _ s9 _ H9 (.ref s2.heap.objs.size) [y9] _ [x9] (fun _ H10=>H10=upd H9 s2.heap.objs.size (.lst (ys++[y9]))) I9 rfl (.cons r9 .nil) ⟨_,ys,y9,rfl,rfl,l9,hsz,rfl⟩) (fun _ s10 ⟨_,H10,I10,_,e10⟩=>?_) fun _ _ f=>f.elim
    subst e10
    have a10:=again I10
    exact ⟨m',hm,i+1,ys++[y9],_,_,I10.nG,⟨_,rfl⟩,a10.1,a10.2,w9⟩
 exact abj loop (T.self _ 0 _ _ _ st3 loop)
theorem zy {elt iter:Expr} {x:Str} {px:Pos} {ifs:List Expr} {scope:Scope} {pos:Pos} {cl:List (Str × Addr)} {N:List Str} {caps:List Nat} {wi:TI} {tt:TT} {te:TE} (hc:X.calm=true) (hclos:Tg scope X.env=pure cl)
  (hcell:∀ y∈scope.names,y.2 ≠ .cell) (hkind:scope.kind = .function) (hnames:∀ y∈scope.names,y.2 = .local->scope.names.lookup y.1=some .local) (hsub:Hw X.env.cells cl)
  (hhas:∀ y,((gA scope X.env).names.lookup y=some .cell\/(gA scope X.env).names.lookup y=some .free)->∃ c,cl.lookup y=some c)
  (hN:N.Nodup) (hN0:N[0]? = some x) (hx:(gA scope X.env).names.lookup x=some .local) (hlen:N.length=caps.length+1) (hcap:∀ (i:Nat) (j:Nat),caps[i]? = some j->zu X N scope cl (i+1) j)
  (hi:PI X (.Name x px) iter wi) (ht:∀ s H fp C,PTs (dH X N scope cl s H fp C) ifs tt) (he:∀ s H fp C,PE (dH X N scope cl s H fp C) elt te)
  (hs:∀ x,Fl iter X.env x=pure x:=by intro _;rfl):PE X (.ListComp elt [⟨.Name x px,iter,ifs,0⟩] scope pos) (ahS wi caps tt te):=by
 walk_at "k"
 rw [abI]
 refine Ss (use:=none) rfl hs hclos hkind hnames (thn (hi pins s σ H _ I h) fun v s1 h1=>thn h1 fun itv s2 h2=>?_)
 obtain ⟨it,fp,tn,J,H2,e,I2,T,st2,f2,w2⟩:=h2
 subst e
 exact Hx hc hcell hkind hsub hhas hN hN0 hx hlen hcap ht he I2 T st2 f2 w2 fun D C σ' H' s5 hC I5 q=>by
  obtain ⟨m,hm,_⟩:=I5.loc
  exact ⟨m,hm,fun h' hs'=>⟨.ref D,H',I2.XQ f2 hC I5 hs',rfl,q⟩⟩
theorem kj {i:Nat} {y:Str} {py spos:Pos} {elt iter:Expr} {x:Str} {px:Pos} {ifs:List Expr} {scope:Scope} {pos:Pos} {cl:List (Str × Addr)} {N:List Str} {caps:List Nat} {wi:TI} {tt:TT} {te:TE} (hXN:X.N.Nodup) (hi0:X.N[i]? = some y) (hy:Loc X.env.scope y)
  (hc:X.calm=true) (hclos:Tg scope X.env=pure cl)
  (hcell:∀ y∈scope.names,y.2 ≠ .cell) (hkind:scope.kind = .function) (hnames:∀ y∈scope.names,y.2 = .local->scope.names.lookup y.1=some .local) (hsub:Hw X.env.cells cl)
  (hhas:∀ y,((gA scope X.env).names.lookup y=some .cell\/(gA scope X.env).names.lookup y=some .free)->∃ c,cl.lookup y=some c)
  (hN:N.Nodup) (hN0:N[0]? = some x) (hx:(gA scope X.env).names.lookup x=some .local) (hlen:N.length=caps.length+1) (hcap:∀ (i:Nat) (j:Nat),caps[i]? = some j->zu X N scope cl (i+1) j)
  (hi:PI X (.Name x px) iter wi) (ht:∀ s H fp C,PTs (dH X N scope cl s H fp C) ifs tt) (he:∀ s H fp C,PE (dH X N scope cl s H fp C) elt te)
  (hs:∀ x,Fl iter X.env x=pure x:=by intro _;rfl) (hsw:LQ (.ListComp elt [⟨.Name x px,iter,ifs,0⟩] scope pos) (some (.Name y py)) spos.line X.env=pure true:=by rfl)
  (hf:X.fn y=true\/X.env.scope.names.lookup y=some .local:=by first | exact .inl rfl | exact .inr rfl | assumption) :
  PS X (.Assign [.Name y py] (.ListComp elt [⟨.Name x px,iter,ifs,0⟩] scope pos) spos) (tAsg (ahS wi caps tt te) (uG i)):=by
 intro pins s σ H D I h
 rw [exec_Assign_Name_used _ _ _ _ hsw]
 refine aG (SQ (aG ?_))
 show wpAny _ X.A (do let _ <- comprehension (.ListComp elt [⟨.Name x px,iter,ifs,0⟩] scope pos) scope X.env _ (Mp []) false (eval iter X.env) (some (pP (.Name y py) X.env))) _ _ s
 refine aG (fO (Ss (use:=some (pP (.Name y py) X.env)) (Q:=fun _ s'=>SP X pins D .next s') rfl hs hclos hkind hnames
  (thn (hi pins s σ H _ I h) fun v s1 h1=>thn h1 fun itv s2 h2=>?_)) (fun _ s' hq=>bH (bH hq)) fun _ _ e=>e)
 obtain ⟨it,fp,tn,J,H2,e,I2,T,st2,f2,w2⟩:=h2
 subst e
 refine Hx (RR:=fun acc C=>compPost (model X.prog X.w) X.A X.xe (some (pP (.Name y py) X.env)) (fun _ s'=>SP X pins D .next s') acc C) hc hcell hkind hsub hhas hN hN0 hx hlen hcap ht he I2 T st2 f2 w2 fun D' C σ' H' s5 hC I5 q=>?_
 show wpAny _ X.A (pP (.Name y py) X.env (.ref D')) _ _ _
 have IX:Inv X pins σ H' s5:=I2.XQ (h':=s5.heap) f2 hC I5 ⟨rfl,fun _ _=>rfl⟩
 have nL:C≠X.env.locals:=by
  obtain ⟨m,⟨o,_,_,ho,_⟩,_⟩:=I2.loc
  exact qW (gF (bR ho) hC)
 have nC:∀ z c,X.env.cells.lookup z=some c->c≠C:=fun z c e=>by
  obtain ⟨v,o,ho,_⟩:=I2.cell z c e
  exact cO (gF (bR ho) hC)
 refine abq (JW IX hXN hi0 hy (v:=.ref D') rfl (fun s6 I6 hb=>?_) hf)
 obtain ⟨m,hm,_⟩:=I5.loc
 obtain ⟨a,sb,ha⟩:=hb
 have na:C≠a:=by
  rcases ha with z | z
  ·rw [z];exact nL
  ·exact aK (nC _ _ z)
 refine ⟨m,hm.sameBut sb na,fun h' hs'=>⟨_,H',?_,q⟩⟩
 obtain ⟨hp6,g6,d6,t6,o6⟩:=s6
 refine I6.turned (it:=C) (t':=t6) (fun b o hb e=>(hs'.2 b hb).trans e) I5.free nL (.inr (iC I2.sz hC)) nC fun p hp z=>?_
 have:=(I2.pin p hp).1
 exact absurd (gF (bR this) (by rw [z];exact hC)) (oU _)
end
theorem lX {names:List (Str × wM)} {cl:List (Str × Addr)} (h:(names.all fun p=>(p.2 != .cell && p.2 != .free) || (cl.lookup p.1).isSome)=true) (y:Str) (hy:names.lookup y=some .cell\/names.lookup y=some .free):∃ c,cl.lookup y=some c:=by
 have key:∀ k:wM,(k = .cell\/k = .free)->names.lookup y=some k->∃ c,cl.lookup y=some c:=fun k hk e=>by
  have m:=ab8.mp h _ (Ak e)
  have:(k != .cell && k != .free)=false:=by rcases hk with z | z <;> (subst z;rfl)
  rw [show ((y,k):Str × wM).2=k from rfl,this,adl] at m
  exact adB.mp m
 rcases hy with z | z
 ·exact key _ (.inl rfl) z
 ·exact key _ (.inr rfl) z
noncomputable def dZ (X:Cx) (N:List Str) (scope:Scope) (cl:List (Str × Addr)):Nat->List Nat->Prop
 | _,[]=>True
 | i,j::r=>zu X N scope cl i j/\dZ X N scope cl (i+1) r
theorem dZ.at {X:Cx} {N:List Str} {scope:Scope} {cl:List (Str × Addr)}:∀ {caps:List Nat} {k:Nat},dZ X N scope cl k caps->∀ (i j:Nat),caps[i]? = some j->zu X N scope cl (i+k) j
 | [],_,_,i,j,h=>by simp at h
 | a::r,k,hc,0,j,h=>by
  have e:a=j:=by simpa using h
  subst e
  rw [uo];exact hc.1
 | a::r,k,hc,i+1,j,h=>by
  have:=dZ.at hc.2 i j (by simpa using h)
  rw [show i+1+k=i+(k+1) by lia];exact this
theorem rK {lo:Int} {n:Nat} {caps:List Nat} {te:TE} {σ:St} {H:Hp} {D:Addr} {Q:VK} (Pv:Nat->List V->Hp->Prop) (h0:Pv 0 [] (upd H D (.lst []))) (hl:∀ i ys H,i<=n->Pv i ys H->H D=some (.lst ys)/\ys.length<sizeLine)
  (hs:∀ i ys H,i<n->Pv i ys H->te (jL σ (some (.int (lo+i))) caps) H fun y H3=>H3 D=some (.lst ys)/\Pv (i+1) (ys++[y]) (upd H3 D (.lst (ys++[y])))) (hd:∀ ys H,Pv n ys H->Q (.ref D) H)
  (mono:∀ σ H (Q Q':VK),(∀ y H,Q y H->Q' y H)->te σ H Q->te σ H Q') :
  vq (Itr lo n) caps rH te σ D Q H:=by
 refine ⟨fun i m ys H=>m=n-i/\i<=n/\Pv i ys H,⟨n,by simp,cB _,h0⟩,?_⟩
 rintro i m ys H ⟨rfl,hi,p⟩
 obtain ⟨q,z⟩:=hl i ys H hi p
 refine ⟨q,?_⟩
 by_cases hlt:i<n
 ·refine .inr ⟨hlt,z,fun x H' y=>?_⟩
  obtain ⟨e,y⟩:=y
  subst e y
  unfold rH;dsimp only
  rw [if_pos rfl]
  exact mono _ _ _ _ (fun y H3 ⟨a,b⟩=>⟨a,n-(i+1),by lia,rfl,hlt,b⟩) (hs i ys _ hlt p)
 ·have e:i=n:=by lia
  subst e
  exact .inl ⟨bV _,hd ys H p⟩
theorem Kl {K:bh} {a:Addr} {xs:List V} {caps:List Nat} {te:TE} {σ:St} {H:Hp} {D:Addr} {Q:VK} (Pv:Nat->List V->Hp->Prop) (h0:Pv 0 [] (upd H D (.lst [])))
  (hl:∀ i ys H,i<=xs.length->Pv i ys H->SqL K H a xs/\H D=some (.lst ys)/\ys.length<sizeLine)
  (hs:∀ i ys H x,xs[i]? = some x->Pv i ys H->te (jL σ (some x) caps) H fun y H3=>H3 D=some (.lst ys)/\Pv (i+1) (ys++[y]) (upd H3 D (.lst (ys++[y])))) (hd:∀ ys H,Pv xs.length ys H->Q (.ref D) H)
  (mono:∀ σ H (Q Q':VK),(∀ y H,Q y H->Q' y H)->te σ H Q->te σ H Q') :
  vq (Itl K a) caps rH te σ D Q H:=by
 refine ⟨fun i m ys H=>m=xs.length-i/\i<=xs.length/\Pv i ys H,⟨xs.length,by simp,cB _,h0⟩,?_⟩
 rintro i m ys H ⟨rfl,hi,p⟩
 obtain ⟨sq,q,z⟩:=hl i ys H hi p
 refine ⟨q,?_⟩
 by_cases hlt:i<xs.length
 ·refine .inr ⟨⟨xs,xs[i],sq,by simp [hlt]⟩,z,fun x H' y=>?_⟩
  obtain ⟨e,y⟩:=y
  subst e
  unfold rH;dsimp only
  rw [if_pos rfl]
  exact mono _ _ _ _ (fun y H3 ⟨a,b⟩=>⟨a,xs.length-(i+1),by lia,rfl,hlt,b⟩) (hs i ys _ x (y xs sq) p)
 ·have e:i=xs.length:=by lia
  subst e
  exact .inl ⟨⟨xs,sq,bV _⟩,hd ys H p⟩
section
variable {X:Cx}
end
end L2
namespace Tm
open PySem PyProof.Rows
class Rk where
 kd:SortKind
 R:Keyed->Int
 Ok:Keyed->Prop
class Rl [Rk] (prog:aN) (w:World) (A:bC) (E:Value->Shared->Prop) (s:Shared):Prop where
 lt:∀ {x y:Keyed} {st:SortSt} {Q:Option Bool->SortSt->Prop},kindOf st=Rk.kd->Rk.Ok x->Rk.Ok y->Q (some (decide (Rk.R x<Rk.R y))) st->wpS (model prog w) A E s (lt' x y) Q st
section
variable [Rk]
noncomputable def K (xs:Array Keyed) (i:Nat):Int:=match xs[i]? with
 | some x=>Rk.R x
 | none=>0
noncomputable def kd0:SortKind:=Rk.kd
noncomputable def Is (x:Keyed) (n:Int):Prop:=Rk.Ok x/\Rk.R x=n
noncomputable def SortedTo (xs:Array Keyed) (k:Nat):Prop:=∀ i j,i<=j->j<k->K xs i<=K xs j
noncomputable def IntKeys (xs:Array Keyed):Prop:=∀ x,x∈xs.toList->Rk.Ok x
structure SBase (a₀:Array Keyed) (st:SortSt):Prop where
 perm:(arrOf st).Perm a₀
 kind:kindOf st=kd0
 failed:lV st=none
 pend:dU st = #[]
theorem SBase.size {a₀:Array Keyed} {st:SortSt} (h:SBase a₀ st):(arrOf st).size=a₀.size:=h.perm.size_eq
theorem K_congr {xs ys:Array Keyed} {i j:Nat} (h:xs[i]? = ys[j]?):K xs i=K ys j:=by unfold K;rw [h]
theorem K_bubble {xs:Array Keyed} {src d:Nat} (hs:src<xs.size) (hd:d<=src) (k:Nat) :
  K (bubble xs src d) k=if k=src-d then K xs src else if src-d<k/\k<=src then K xs (k-1) else K xs k:=by
 have e:=acX hs d hd k
 split at e
 ·rename_i h;rw [if_pos h];exact K_congr e
 ·rename_i h
  rw [if_neg h]
  split at e
  ·rename_i h';rw [if_pos h'];exact K_congr e
  ·rename_i h';rw [if_neg h'];exact K_congr e
theorem K_mirror {xs:Array Keyed} {i j:Nat} (hj:j<=xs.size) (k:Nat):K (xP xs i j ((j-i) / 2)) k=if i<=k/\k<j then K xs (i+j-1-k) else K xs k:=by
 have e:=Gs (i:=i) hj k
 split at e
 ·rename_i h;rw [if_pos h];exact K_congr e
 ·rename_i h;rw [if_neg h];exact K_congr e
theorem K_mirror_equal {xs:Array Keyed} {i j:Nat} (hj:j<=xs.size) (heq:∀ k,i<=k->k<j->K xs k=K xs (j-1)) (k:Nat):K (xP xs i j ((j-i) / 2)) k=K xs k:=by
 rw [K_mirror hj]
 split
 ·rw [heq _ tb_g% tb_g%,heq k tb_g% tb_g%]
 ·rfl
noncomputable def gal:Bool->Keyed->Array Keyed->Nat->Nat->Nat->StateT SortSt Sem (Option Nat):=sortPriv% PySem.Builtin.gallop
section
variable {prog:aN} {w:World} {A:bC} {E:Value->Shared->Prop} {s:Shared} [Rl prog w A E s]
theorem Hy {st:SortSt} {a b:Int} {x y:Keyed} {Q:Option Bool->SortSt->Prop} (hk:kindOf st=kd0) (h:Q (some (decide (a<b))) st) (hx:Is x a:=by assumption) (hy:Is y b:=by assumption) :
  wpS (model prog w) A E s (lt' x y) Q st:=Rl.lt hk hx.1 hy.1 (by rw [hx.2,hy.2];exact h)
theorem dI {st:SortSt} {arr:Array Keyed} {i:Nat} {x:Keyed} {Q:Keyed->SortSt->Prop} (hi:arr[i]? = some x) (h:Q x st):wpS (model prog w) A E s (elem' arr i) Q st:=by
 rw [elem'_eq,hi]
 exact aZ h
noncomputable def bey (left:Bool) (key:Int) (arr:Array Keyed) (i:Nat):Bool:=if left then decide (K arr i<key) else !decide (key<K arr i)
noncomputable def Ints (arr:Array Keyed) (a b:Nat):Prop:=∀ i,a<=i->i<b->∃ (u:Keyed) (_:Is u (K arr i)),arr[i]? = some u
theorem agG {left:Bool} {key:Int} {y:Keyed} {arr:Array Keyed} {i:Nat} {st:SortSt} {u:Keyed} {Q:Option Bool->SortSt->Prop} (hk:kindOf st=kd0) (hy:Is y key) (hu:Is u (K arr i)) (hi:arr[i]? = some u) (h:Q (some (bey left key arr i)) st) :
  wpS (model prog w) A E s (do
   let x <- elem' arr i
   if left=true then lt' x y else do
    let r <- lt' y x
    pure (adF (fun x=>!x) r)) Q st:=by
 refine aP (dI hi ?_)
 unfold bey at h
 cases left with
 | true=>exact Hy hk h
 | false=>exact aP (Hy hk (aZ h))
theorem kE {left:Bool} {key:Int} {y:Keyed} {arr:Array Keyed} {base n hint:Nat} {st:SortSt} {Q:Option Nat->SortSt->Prop} (hk:kindOf st=kd0) (hI:Ints arr base (base+n)) (hh:hint<n)
  (hm:∀ i j,i<=j->j<n->bey left key arr (base+j)=true->bey left key arr (base+i)=true)
  (h:∀ k,k<=n->(∀ i,i<k->bey left key arr (base+i)=true)->(∀ i,k<=i->i<n->bey left key arr (base+i)=false)->Q (some k) st) (hy:Is y key:=by assumption) :
  wpS (model prog w) A E s (gal left y arr base n hint) Q st:=by
 have ask:∀ i,i<n->∀ {Q:Option Bool->SortSt->Prop},Q (some (bey left key arr (base+i))) st->wpS (model prog w) A E s (do
   let x <- elem' arr (base+i)
   if left=true then lt' x y else do
    let r <- lt' y x
    pure (adF (fun x=>!x) r)) Q st:=fun i hi {Q} hQ=>by
  obtain ⟨u,q,e⟩:=hI (base+i) tb_g% tb_g%
  exact agG hk hy q e hQ
 have up:∀ i j,i<=j->j<n->bey left key arr (base+i)=false->bey left key arr (base+j)=false:=fun i j hij hj hf=>by
  cases e:bey left key arr (base+j) with
  | false=>rfl
  | true=>rw [hm i j hij hj e] at hf;cases hf
 refine aP (ask hint hh ?_)
 dsimp only
 cases hb:bey left key arr (base+hint) with
 | true =>
  rw [if_pos rfl]
  refine aP (gn (jX (I:=fun x c st'=>st'=st/\∃ lastofs ofs,c=(none,lastofs,ofs)/\lastofs<ofs/\x+1<=ofs/\(lastofs=0\/hint+lastofs<n)/\bey left key arr (base+(hint+lastofs))=true)
   (Q:=fun c st'=>st'=st/\∃ lastofs ofs,c=(none,lastofs,ofs)/\lastofs<ofs/\(lastofs=0\/hint+lastofs<n)/\bey left key arr (base+(hint+lastofs))=true/\(n-hint<=ofs\/(hint+ofs<n/\bey left key arr (base+(hint+ofs))=false))) ?_ ?_ ⟨rfl,0,1,rfl,by lia,by lia,.inl rfl,hb⟩) ?_)
  ·rintro x c st' _ hx ⟨rfl,la,of,rfl,h1,h2,h3,h4⟩
   dsimp only
   by_cases hge:of>=n-hint
   ·rw [if_pos hge]
    exact aZ ⟨rfl,la,of,rfl,h1,h3,h4,.inl hge⟩
   ·rw [if_neg hge]
    refine aP (ask (hint+of) tb_g% ?_)
    dsimp only
    cases hb2:bey left key arr (base+(hint+of)) with
    | false=>exact aZ ⟨rfl,la,of,rfl,h1,h3,h4,.inr ⟨by lia,hb2⟩⟩
    | true=>exact aZ ⟨rfl,of,2*of+1,rfl,by lia,by lia,.inr tb_g%,hb2⟩
  ·rintro c st' ⟨rfl,la,of,rfl,h1,h2,h3,h4⟩
   exact ⟨rfl,la,of,rfl,h1,h3,h4,.inl tb_g%⟩
  ·rintro c st' ⟨rfl,la,of,rfl,h1,h3,h4,h5⟩
   dsimp only
   have lo1:∀ i,i<hint+la+1->bey left key arr (base+i)=true:=fun i hi=>hm i (hint+la) tb_g% tb_g% h4
   have hi1:∀ i,hint+min of (n-hint)<=i->i<n->bey left key arr (base+i)=false:=fun i h6 h7=>by
    rcases h5 with z | ⟨z,z'⟩
    ·lia
    ·exact up (hint+of) i tb_g% h7 z'
   have le1:hint+la+1<=hint+min of (n-hint):=by lia
   have le2:hint+min of (n-hint)<=n:=by lia
   generalize hint+la+1=lo at lo1 le1 ⊢
   generalize hint+min of (n-hint)=hi at hi1 le1 le2 ⊢
   refine aP (gn (jX (I:=fun x c s2=>s2=st'/\∃ lo hi,c=(none,lo,hi)/\lo<=hi/\hi<=n/\(hi-lo<=n-x)/\(∀ i,i<lo->bey left key arr (base+i)=true)/\∀ i,hi<=i->i<n->bey left key arr (base+i)=false)
    (Q:=fun c s2=>s2=st'/\∃ lo hi,c=(none,lo,hi)/\lo=hi/\hi<=n/\(∀ i,i<lo->bey left key arr (base+i)=true)/\∀ i,hi<=i->i<n->bey left key arr (base+i)=false) ?_ ?_ ⟨rfl,lo,hi,rfl,le1,le2,by lia,lo1,hi1⟩) ?_)
   ·rintro x c s2 _ hx ⟨rfl,lo,hi,rfl,g1,g2,g3,g4,g5⟩
    dsimp only
    by_cases hge:lo>=hi
    ·rw [if_pos hge]
     exact aZ ⟨rfl,lo,hi,rfl,by lia,g2,g4,g5⟩
    ·rw [if_neg hge]
     refine aP (ask (lo+(hi-lo) / 2) tb_g% ?_)
     dsimp only
     cases hb2:bey left key arr (base+(lo+(hi-lo) / 2)) with
     | true=>exact aZ ⟨rfl,lo+(hi-lo) / 2+1,hi,rfl,by lia,g2,by lia,fun i hi'=>hm i (lo+(hi-lo) / 2) tb_g% tb_g% hb2,g5⟩
     | false=>exact aZ ⟨rfl,lo,lo+(hi-lo) / 2,rfl,by lia,by lia,by lia,g4,fun i h6 h7=>up (lo+(hi-lo) / 2) i h6 h7 hb2⟩
   ·rintro c s2 ⟨rfl,lo,hi,rfl,g1,g2,g3,g4,g5⟩
    exact ⟨rfl,lo,hi,rfl,by lia,g2,g4,g5⟩
   ·rintro c s2 ⟨rfl,lo,hi,rfl,rfl,g2,g4,g5⟩
    exact aZ (h lo g2 g4 g5)
 | false =>
  rw [if_neg (by decide)]
  refine aP (gn (jX (I:=fun x c st'=>st'=st/\∃ lastofs ofs,c=(none,lastofs,ofs)/\lastofs<ofs/\x+1<=ofs/\lastofs<=hint/\bey left key arr (base+(hint-lastofs))=false)
   (Q:=fun c st'=>st'=st/\∃ lastofs ofs,c=(none,lastofs,ofs)/\lastofs<ofs/\lastofs<=hint/\bey left key arr (base+(hint-lastofs))=false/\(hint+1<=ofs\/bey left key arr (base+(hint-ofs))=true)) ?_ ?_ ⟨rfl,0,1,rfl,by lia,by lia,by lia,hb⟩) ?_)
  ·rintro x c st' _ hx ⟨rfl,la,of,rfl,h1,h2,h3,h4⟩
   dsimp only
   by_cases hge:of>=hint+1
   ·rw [if_pos hge]
    exact aZ ⟨rfl,la,of,rfl,h1,h3,h4,.inl hge⟩
   ·rw [if_neg hge]
    refine aP (ask (hint-of) tb_g% ?_)
    dsimp only
    cases hb2:bey left key arr (base+(hint-of)) with
    | true=>exact aZ ⟨rfl,la,of,rfl,h1,h3,h4,.inr hb2⟩
    | false=>exact aZ ⟨rfl,of,2*of+1,rfl,by lia,by lia,by lia,hb2⟩
  ·rintro c st' ⟨rfl,la,of,rfl,h1,h2,h3,h4⟩
   exact ⟨rfl,la,of,rfl,h1,h3,h4,.inl tb_g%⟩
  ·rintro c st' ⟨rfl,la,of,rfl,h1,h3,h4,h5⟩
   dsimp only
   have lo1:∀ i,i<hint+1-min of (hint+1)->bey left key arr (base+i)=true:=fun i hi=>by
    rcases h5 with z | z
    ·lia
    ·exact hm i (hint-of) tb_g% tb_g% z
   have hi1:∀ i,hint-la<=i->i<n->bey left key arr (base+i)=false:=fun i h6 h7=>up (hint-la) i h6 h7 h4
   have le1:hint+1-min of (hint+1)<=hint-la:=by lia
   have le2:hint-la<=n:=by lia
   generalize hint+1-min of (hint+1)=lo at lo1 le1 ⊢
   generalize hint-la=hi at hi1 le1 le2 ⊢
   refine aP (gn (jX (I:=fun x c s2=>s2=st'/\∃ lo hi,c=(none,lo,hi)/\lo<=hi/\hi<=n/\(hi-lo<=n-x)/\(∀ i,i<lo->bey left key arr (base+i)=true)/\∀ i,hi<=i->i<n->bey left key arr (base+i)=false)
    (Q:=fun c s2=>s2=st'/\∃ lo hi,c=(none,lo,hi)/\lo=hi/\hi<=n/\(∀ i,i<lo->bey left key arr (base+i)=true)/\∀ i,hi<=i->i<n->bey left key arr (base+i)=false) ?_ ?_ ⟨rfl,lo,hi,rfl,le1,le2,by lia,lo1,hi1⟩) ?_)
   ·rintro x c s2 _ hx ⟨rfl,lo,hi,rfl,g1,g2,g3,g4,g5⟩
    dsimp only
    by_cases hge:lo>=hi
    ·rw [if_pos hge]
     exact aZ ⟨rfl,lo,hi,rfl,by lia,g2,g4,g5⟩
    ·rw [if_neg hge]
     refine aP (ask (lo+(hi-lo) / 2) tb_g% ?_)
     dsimp only
     cases hb2:bey left key arr (base+(lo+(hi-lo) / 2)) with
     | true=>exact aZ ⟨rfl,lo+(hi-lo) / 2+1,hi,rfl,by lia,g2,by lia,fun i hi'=>hm i (lo+(hi-lo) / 2) tb_g% tb_g% hb2,g5⟩
     | false=>exact aZ ⟨rfl,lo,lo+(hi-lo) / 2,rfl,by lia,by lia,by lia,g4,fun i h6 h7=>up (lo+(hi-lo) / 2) i h6 h7 hb2⟩
   ·rintro c s2 ⟨rfl,lo,hi,rfl,g1,g2,g3,g4,g5⟩
    exact ⟨rfl,lo,hi,rfl,by lia,g2,g4,g5⟩
   ·rintro c s2 ⟨rfl,lo,hi,rfl,rfl,g2,g4,g5⟩
    exact aZ (h lo g2 g4 g5)
end
noncomputable def Srt (xs:Array Keyed) (a b:Nat):Prop:=∀ i j,a<=i->i<=j->j<b->K xs i<=K xs j
structure Within (xs ys:Array Keyed) (a b:Nat):Prop where
 perm:ys.Perm xs
 out:∀ i,i<a\/b<=i->ys[i]? = xs[i]?
theorem Within.refl (xs:Array Keyed) (a b:Nat):Within xs xs a b:=⟨Vw _,fun _ _=>rfl⟩
theorem Within.trans {xs ys zs:Array Keyed} {a b:Nat} (h:Within xs ys a b) (h':Within ys zs a b):Within xs zs a b:=⟨h'.perm.trans h.perm,fun i hi=>(h'.out i hi).trans (h.out i hi)⟩
theorem Within.wide {xs ys:Array Keyed} {a b a' b':Nat} (h:Within xs ys a b) (ha:a'<=a) (hb:b<=b'):Within xs ys a' b':=⟨h.perm,fun i hi=>h.out i tb_g%⟩
theorem yj {xs:Array Keyed} (h0:IntKeys xs) {i:Nat} (hi:i<xs.size):∃ (t:Keyed) (_:Is t (K xs i)),xs[i]? = some t:=by
 have e:xs[i]? = some xs[i]:=getElem?_pos _ i hi
 refine ⟨xs[i],⟨h0 xs[i] (by simp),?_⟩,e⟩
 unfold K
 rw [e]
theorem vA {xs ys:Array Keyed} (h:IntKeys xs) (p:ys.Perm xs):IntKeys ys:=fun q hq=>h q ((M9.mp p).mem_iff.mp hq)
section
variable {prog:aN} {w:World} {A:bC} {E:Value->Shared->Prop} {s:Shared} [Rl prog w A E s]
theorem Cq {st:SortSt} {i j:Nat} {Q:Option Bool->SortSt->Prop} (hk:kindOf st=kd0) (h0:IntKeys (arrOf st)) (hi:i<(arrOf st).size) (hj:j<(arrOf st).size)
  (h:Q (some (decide (K (arrOf st) i<K (arrOf st) j))) st):wpS (model prog w) A E s (ltAt' i j) Q st:=by
 obtain ⟨t,p,e1⟩:=yj h0 hi
 obtain ⟨u,q,e2⟩:=yj h0 hj
 rw [ltAt'_eq]
 refine aP (pW ?_)
 show wpS _ _ _ _ (do let x <- elem' (arrOf st) i;let y <- elem' (arrOf st) j;lt' x y) Q st
 rw [elem'_eq,elem'_eq,e1,e2]
 refine aP (aZ (aP (aZ ?_)))
 exact Hy hk h
theorem aeQ {lo n ok:Nat} {st:SortSt} {Q:Bool->SortSt->Prop} (hk:kindOf st=kd0) (h0:IntKeys (arrOf st)) (hz:lo+n<=(arrOf st).size) (hok:ok<=n) (hs:Srt (arrOf st) lo (lo+ok))
  (h:∀ ys,Within (arrOf st) ys lo (lo+n)->Srt ys lo (lo+n)->Q true (fu st ys)):wpS (model prog w) A E s (binarySort' lo n ok) Q st:=by
 have hs1:Srt (arrOf st) lo (lo+max ok 1):=fun i j h1 h2 h3=>by
  by_cases e:j<lo+ok
  ·exact hs i j h1 h2 e
  ·have:i=j:=by lia
   rw [this];exact cP _
 refine aP (gn (jX (I:=fun k c st'=>c=(none,())/\∃ ys,st'=fu st ys/\Within (arrOf st) ys lo (lo+n)/\Srt ys lo (lo+k))
  (Q:=fun c st'=>c=(none,())/\∃ ys,st'=fu st ys/\Within (arrOf st) ys lo (lo+n)/\Srt ys lo (lo+n)) ?_ ?_ ⟨rfl,arrOf st,rfl,Within.refl _ _ _,hs1⟩) ?_)
 ·rintro k c st' hk1 hk2 ⟨rfl,ys,rfl,hw,hsr⟩
  have sz:ys.size=(arrOf st).size:=hw.perm.size_eq
  have hi0:IntKeys ys:=vA h0 hw.perm
  dsimp only
  refine aP (gn (jX (I:=fun x c st'=>st'=fu st ys/\∃ l r,c=(none,l,r)/\l<=r/\r<=k/\r-l<=k-x/\(∀ i,i<l->K ys (lo+i)<=K ys (lo+k))/\∀ i,r<=i->i<k->K ys (lo+k)<K ys (lo+i))
   (Q:=fun c st'=>st'=fu st ys/\∃ l r,c=(none,l,r)/\l=r/\r<=k/\(∀ i,i<l->K ys (lo+i)<=K ys (lo+k))/\∀ i,r<=i->i<k->K ys (lo+k)<K ys (lo+i)) ?_ ?_ ⟨rfl,0,k,rfl,cB _,bV _,by lia,fun i hi=>by lia,fun i h1 h2=>by lia⟩) ?_)
  ·rintro x c st' _ hx ⟨rfl,l,r,rfl,g1,g2,g3,g4,g5⟩
   dsimp only
   by_cases hge:l>=r
   ·rw [if_pos hge]
    exact aZ ⟨rfl,l,r,rfl,by lia,g2,g4,g5⟩
   ·rw [if_neg hge]
    refine aP (Cq (st:=fu st ys) hk hi0 (by show lo+k<ys.size;lia) (by show lo+(l+r) / 2<ys.size;lia) ?_)
    dsimp only
    show wpS _ _ _ _ (if decide (K ys (lo+k)<K ys (lo+(l+r) / 2))=true then _ else _) _ _
    by_cases hl:K ys (lo+k)<K ys (lo+(l+r) / 2)
    ·rw [if_pos (decide_eq_true hl)]
     refine aZ ⟨rfl,l,(l+r) / 2,rfl,by lia,by lia,by lia,g4,fun i h1 h2=>?_⟩
     exact Int.lt_of_lt_of_le hl (hsr (lo+(l+r) / 2) (lo+i) tb_g% tb_g% tb_g%)
    ·rw [if_neg (by simpa using hl)]
     refine aZ ⟨rfl,(l+r) / 2+1,r,rfl,by lia,g2,by lia,fun i h1=>?_,g5⟩
     exact iG (hsr (lo+i) (lo+(l+r) / 2) tb_g% tb_g% tb_g%) (jH.mp hl)
  ·rintro c st' ⟨rfl,l,r,rfl,g1,g2,g3,g4,g5⟩
   exact ⟨rfl,l,r,rfl,by lia,g2,g4,g5⟩
  ·rintro c st' ⟨rfl,l,r,rfl,rfl,g2,g4,g5⟩
   dsimp only
   show wpS _ _ _ _ (moveDown' (lo+k) (lo+l) >>= _) _ _
   rw [moveDown'_eq]
   refine aP (lU (aZ ⟨rfl,bubble ys (lo+k) (lo+k-(lo+l)),rfl,hw.trans ⟨bubble_perm _ _ _,fun i hi=>?_⟩,fun i j h1 h2 h3=>?_⟩))
   ·rw [acX tb_g% _ tb_g%,if_neg tb_g%,if_neg tb_g%]
   ·rw [K_bubble tb_g% tb_g%,K_bubble tb_g% tb_g%]
    have e:lo+k-(lo+k-(lo+l))=lo+l:=by lia
    rw [e]
    by_cases a1:i=lo+l
    ·rw [if_pos a1]
     by_cases b1:j=lo+l
     ·rw [if_pos b1];exact cP _
     ·rw [if_neg b1,if_pos tb_g%]
      have:=g5 (j-1-lo) tb_g% tb_g%
      rw [show lo+(j-1-lo)=j-1 by lia] at this
      exact oW this
    ·rw [if_neg a1]
     by_cases a2:lo+l<i/\i<=lo+k
     ·rw [if_pos a2,if_neg tb_g%,if_pos tb_g%]
      exact hsr (i-1) (j-1) tb_g% tb_g% tb_g%
     ·rw [if_neg a2]
      by_cases b1:j=lo+l
      ·rw [if_pos b1]
       have:=g4 (i-lo) tb_g%
       rw [show lo+(i-lo)=i by lia] at this
       exact this
      ·rw [if_neg b1]
       by_cases b2:lo+l<j/\j<=lo+k
       ·rw [if_pos b2];exact hsr i (j-1) tb_g% tb_g% tb_g%
       ·rw [if_neg b2];exact hsr i j tb_g% tb_g% tb_g%
 ·rintro c st' ⟨rfl,ys,rfl,hw,hsr⟩
  refine ⟨rfl,ys,rfl,hw,?_⟩
  by_cases hn:n=0
  ·intro i j h1 h2 h3;lia
  ·rw [show max (max ok 1) n=n by lia] at hsr;exact hsr
 ·rintro c st' ⟨rfl,ys,rfl,hw,hsr⟩
  exact aZ (h ys hw hsr)
theorem agH {lo nrem:Nat} {st:SortSt} {Q:Option Nat->SortSt->Prop} (hk:kindOf st=kd0) (h0:IntKeys (arrOf st)) (hz:lo+nrem<=(arrOf st).size) (h1:1<=nrem)
  (h:∀ n ys,1<=n->n<=nrem->(∀ q,q<=nrem->Srt (arrOf st) lo (lo+q)->q<=n)->Within (arrOf st) ys lo (lo+nrem)->Srt ys lo (lo+n)->Q (some n) (fu st ys)):wpS (model prog w) A E s (countRun' lo nrem) Q st:=by
 refine aP (gn (jX (I:=fun x c st'=>st'=st/\c=(none,x)/\Srt (arrOf st) lo (lo+x))
  (Q:=fun c st'=>st'=st/\∃ n,c=(none,n)/\1<=n/\n<=nrem/\Srt (arrOf st) lo (lo+n)/\(n<nrem->K (arrOf st) (lo+n)<K (arrOf st) (lo+n-1))) ?_ ?_ ⟨rfl,rfl,fun i j g1 g2 g3=>by
   have:i=j:=by lia
   rw [this];exact cP _⟩) ?_)
 ·rintro x c st' hx1 hx2 ⟨rfl,rfl,hs⟩
  dsimp only
  refine aP (Cq hk h0 tb_g% tb_g% ?_)
  dsimp only
  by_cases hl:K (arrOf st') (lo+x)<K (arrOf st') (lo+x-1)
  ·rw [if_pos (decide_eq_true hl)]
   exact aZ ⟨rfl,x,rfl,hx1,by lia,hs,fun _=>hl⟩
  ·rw [if_neg (by simpa using hl)]
   refine aZ ⟨rfl,rfl,fun i j g1 g2 g3=>?_⟩
   by_cases e:j<lo+x
   ·exact hs i j g1 g2 e
   ·have ej:j=lo+x:=by lia
    subst ej
    by_cases e2:i=lo+x
    ·rw [e2];exact cP _
    ·exact iG (hs i (lo+x-1) g1 tb_g% tb_g%) (jH.mp hl)
 ·rintro c st' ⟨rfl,rfl,hs⟩
  rw [show max 1 nrem=nrem by lia] at hs ⊢
  exact ⟨rfl,nrem,rfl,h1,bV _,hs,fun z=>absurd z (oU _)⟩
 ·rintro c st' ⟨rfl,n,rfl,n1,n2,hs,hlt⟩
  k_dat (r0,hr0) "b"
  subst hr0
  k_dat (n0,hn0) "b"
  subst hn0
  have hq0:∀ q,q<=nrem->Srt (arrOf st') lo (lo+q)->q<=n0:=fun q g1 g2=>M8.mp fun z=>by
   have:=hlt tb_g%
   have:=g2 (lo+n0-1) (lo+n0) tb_g% tb_g% tb_g%
   lia
  show wpS _ _ _ _ (if (n0 == nrem)=true then _ else _) Q st'
  by_cases hn:n0=nrem
  ·rw [if_pos (by simpa using hn)]
   exact aZ (h n0 (arrOf st') n1 n2 hq0 (Within.refl _ _ _) hs)
  rw [if_neg (by simpa using hn)]
  have hlt':=hlt tb_g%
  k_dat (jp,hjp) "b"
  have key:∀ (u:PUnit) (ys:Array Keyed),Within (arrOf st') ys lo (lo+nrem)->(∀ i,lo<=i->i<lo+n0->K ys i=K ys (lo+n0-1))->K ys (lo+n0)<K ys (lo+n0-1)->wpS (model prog w) A E s (jp u) Q (fu st' ys):=by
   intro u ys hw heq hless
   rw [hjp]
   refine aP (xO (jY ⟨rfl,?_⟩))
   k_dat (n,hn') "b"
   k_dat (neq,hneq) "b"
   subst hneq
   refine aP (gn (jX (I:=fun x c st2=>∃ zs q,c=(none,x,q)/\st2=fu st' zs/\Within (arrOf st') zs lo (lo+nrem)/\q+1<x/\(∀ i j,lo<=i->i<=j->j<lo+x->K zs j<=K zs i)/\(∀ i,lo+x-(q+1)<=i->i<lo+x->K zs i=K zs (lo+x-1)))
    (Q:=fun c st2=>∃ zs x q,c=(none,x,q)/\n<=x/\x<=nrem/\st2=fu st' zs/\Within (arrOf st') zs lo (lo+nrem)/\q+1<x/\(∀ i j,lo<=i->i<=j->j<lo+x->K zs j<=K zs i)/\(∀ i,lo+x-(q+1)<=i->i<lo+x->K zs i=K zs (lo+x-1))) ?_ ?_ ?_) ?_)
   ·rintro x c st2 hx1 hx2 ⟨zs,q,rfl,rfl,w2,q1,q2,q3⟩
    have sz:zs.size=(arrOf st').size:=w2.perm.size_eq
    have hi0:IntKeys zs:=vA h0 w2.perm
    dsimp only
    refine aP (Cq (st:=fu st' zs) hk hi0 (by show lo+x<zs.size;lia) (by show lo+x-1<zs.size;lia) ?_)
    dsimp only
    show wpS _ _ _ _ (if decide (K zs (lo+x)<K zs (lo+x-1))=true then _ else _) _ _
    by_cases hl:K zs (lo+x)<K zs (lo+x-1)
    ·rw [if_pos (decide_eq_true hl)]
     have ext:∀ vs:Array Keyed,(∀ i,K vs i=K zs i)->(∀ i j,lo<=i->i<=j->j<lo+(x+1)->K vs j<=K vs i):=fun vs hv i j g1 g2 g3=>by
      rw [hv,hv]
      by_cases e:j<lo+x
      ·exact q2 i j g1 g2 e
      ·have ej:j=lo+x:=by lia
       subst ej
       by_cases e2:i=lo+x
       ·rw [e2];exact cP _
       ·exact iG (oW hl) (q2 i (lo+x-1) g1 tb_g% tb_g%)
     have one:∀ vs:Array Keyed,∀ i,lo+(x+1)-(0+1)<=i->i<lo+(x+1)->K vs i=K vs (lo+(x+1)-1):=fun vs i g1 g2=>by
      have:i=lo+(x+1)-1:=by lia
      rw [this]
     by_cases hq:q>0
     ·rw [if_pos hq]
      have me:=K_mirror_equal (xs:=zs) (i:=lo+x-(q+1)) (j:=lo+x) tb_g% (fun k g1 g2=>q3 k g1 g2)
      show wpS _ _ _ _ (Nk (lo+x-(q+1)) (lo+x) >>= _) _ _
      rw [Ng]
      refine aP (lU (aZ ⟨xP zs (lo+x-(q+1)) (lo+x) ((lo+x-(lo+x-(q+1))) / 2),0,rfl,rfl,w2.trans ⟨Nq _ _ _ _,fun i hi=>?_⟩,by lia,ext _ me,one _⟩))
      rw [Gs tb_g%,if_neg tb_g%]
     ·rw [if_neg hq]
      exact aZ ⟨zs,0,rfl,rfl,w2,by lia,ext zs (fun _=>rfl),one zs⟩
    ·rw [if_neg (by simpa using hl)]
     refine aP (Cq (st:=fu st' zs) hk hi0 (by show lo+x-1<zs.size;lia) (by show lo+x<zs.size;lia) ?_)
     dsimp only
     show wpS _ _ _ _ (if decide (K zs (lo+x-1)<K zs (lo+x))=true then _ else _) _ _
     by_cases hl2:K zs (lo+x-1)<K zs (lo+x)
     ·rw [if_pos (decide_eq_true hl2)]
      exact aZ ⟨zs,x,q,rfl,hx1,by lia,rfl,w2,q1,q2,q3⟩
     ·rw [if_neg (by simpa using hl2)]
      have heq2:K zs (lo+x)=K zs (lo+x-1):=by lia
      refine aZ ⟨zs,q+1,rfl,rfl,w2,by lia,fun i j g1 g2 g3=>?_,fun i g1 g2=>?_⟩
      ·by_cases e:j<lo+x
       ·exact q2 i j g1 g2 e
       ·have ej:j=lo+x:=by lia
        subst ej
        by_cases e2:i=lo+x
        ·rw [e2];exact cP _
        ·rw [heq2];exact q2 i (lo+x-1) g1 tb_g% tb_g%
      ·rw [show lo+(x+1)-1=lo+x by lia]
       by_cases e:i=lo+x
       ·rw [e]
       ·rw [heq2];exact q3 i tb_g% tb_g%
   ·rintro c st2 ⟨zs,q,rfl,rfl,w2,q1,q2,q3⟩
    have e:max n nrem=nrem:=by lia
    rw [e] at q1 q2 q3 ⊢
    exact ⟨zs,nrem,q,rfl,by lia,bV _,rfl,w2,q1,q2,q3⟩
   ·refine ⟨ys,0,rfl,rfl,hw,by lia,fun i j g1 g2 g3=>?_,fun i g1 g2=>?_⟩
    ·subst hn'
     by_cases e:j<lo+n0
     ·rw [heq i g1 tb_g%,heq j tb_g% e];exact cP _
     ·have ej:j=lo+n0:=by lia
      subst ej
      by_cases e2:i=lo+n0
      ·rw [e2];exact cP _
      ·rw [heq i g1 tb_g%];exact oW hless
    ·have:i=lo+n-1:=by lia
     rw [this]
   ·rintro c st2 ⟨zs,x,q,rfl,hx1,hx2,rfl,w2,q1,q2,q3⟩
    k_dat (r2,hr2) "b"
    subst hr2
    k_dat (s2,hs2) "b"
    subst hs2
    k_dat (n2',hn2') "b"
    have hn3:x=n2':=hn2'.symm
    subst hn3
    k_dat (neq2,hneq2) "b"
    have hn4:q=neq2:=hneq2.symm
    subst hn4
    walk_at "c"
    k_dat (jp2,Eb) "b"
    have fin:∀ (u:PUnit) (vs:Array Keyed),Within (arrOf st') vs lo (lo+nrem)->(∀ i j,lo<=i->i<=j->j<lo+x->K vs j<=K vs i)->wpS (model prog w) A E s (jp2 u) Q (fu st' vs):=by
     intro u vs w3 dec
     rw [Eb]
     have sz:vs.size=(arrOf st').size:=w3.perm.size_eq
     show wpS _ _ _ _ (Nk lo (lo+x) >>= _) _ _
     rw [Ng]
     refine aP (lU ?_)
     have w4:Within (arrOf st') (xP vs lo (lo+x) ((lo+x-lo) / 2)) lo (lo+nrem):=w3.trans ⟨Nq _ _ _ _,fun i hi=>by rw [Gs tb_g%,if_neg tb_g%]⟩
     have s4:Srt (xP vs lo (lo+x) ((lo+x-lo) / 2)) lo (lo+x):=fun i j g1 g2 g3=>by
      rw [K_mirror tb_g%,K_mirror tb_g%,if_pos tb_g%,if_pos tb_g%]
      exact dec _ _ tb_g% tb_g% tb_g%
     show wpS _ _ _ _ _ Q (fu st' (xP vs lo (lo+x) ((lo+x-lo) / 2)))
     generalize xP vs lo (lo+x) ((lo+x-lo) / 2)=us at w4 s4 ⊢
     have sz4:us.size=(arrOf st').size:=w4.perm.size_eq
     have hi4:IntKeys us:=vA h0 w4.perm
     refine aP (gn (jX (I:=fun y c st3=>st3=fu st' us/\c=(none,y)/\Srt us lo (lo+y))
      (Q:=fun c st3=>st3=fu st' us/\∃ m,c=(none,m)/\x<=m/\m<=nrem/\Srt us lo (lo+m)) ?_ ?_ ⟨rfl,rfl,s4⟩) ?_)
     ·rintro y c st3 hy1 hy2 ⟨rfl,rfl,hs5⟩
      dsimp only
      refine aP (Cq (st:=fu st' us) hk hi4 (by show lo+y<us.size;lia) (by show lo+y-1<us.size;lia) ?_)
      dsimp only
      show wpS _ _ _ _ (if decide (K us (lo+y)<K us (lo+y-1))=true then _ else _) _ _
      by_cases hl:K us (lo+y)<K us (lo+y-1)
      ·rw [if_pos (decide_eq_true hl)]
       exact aZ ⟨rfl,y,rfl,by lia,by lia,hs5⟩
      ·rw [if_neg (by simpa using hl)]
       refine aZ ⟨rfl,rfl,fun i j g1 g2 g3=>?_⟩
       by_cases e:j<lo+y
       ·exact hs5 i j g1 g2 e
       ·have ej:j=lo+y:=by lia
        subst ej
        by_cases e2:i=lo+y
        ·rw [e2];exact cP _
        ·exact iG (hs5 i (lo+y-1) g1 tb_g% tb_g%) (jH.mp hl)
     ·rintro c st3 ⟨rfl,rfl,hs5⟩
      rw [show max x nrem=nrem by lia] at hs5 ⊢
      exact ⟨rfl,nrem,rfl,hx2,bV _,hs5⟩
     ·rintro c st3 ⟨rfl,m,rfl,m1,m2,hs5⟩
      exact aZ (h m us tb_g% m2 (fun z g1 g2=>iC (hq0 z g1 g2) tb_g%) w4 hs5)
    have sz:zs.size=(arrOf st').size:=w2.perm.size_eq
    by_cases hq:q>0
    ·rw [if_pos hq]
     have me:=K_mirror_equal (xs:=zs) (i:=lo+x-(q+1)) (j:=lo+x) tb_g% (fun k g1 g2=>q3 k g1 g2)
     show wpS _ _ _ _ (Nk (lo+x-(q+1)) (lo+x) >>= _) _ _
     rw [Ng]
     refine aP (lU (fin _ _ (w2.trans ⟨Nq _ _ _ _,fun i hi=>?_⟩) fun i j g1 g2 g3=>?_))
     ·rw [Gs (by show lo+x<=zs.size;lia),if_neg tb_g%]
     ·rw [me,me];exact q2 i j g1 g2 g3
    ·rw [if_neg hq]
     exact fin _ zs w2 q2
  by_cases hn1:n0>1
  ·rw [if_pos hn1]
   refine aP (Cq hk h0 tb_g% tb_g% ?_)
   dsimp only
   by_cases hl:K (arrOf st') lo<K (arrOf st') (lo+n0-1)
   ·rw [if_pos (decide_eq_true hl)]
    exact aZ (h n0 (arrOf st') n1 n2 hq0 (Within.refl _ _ _) hs)
   ·rw [if_neg (by simpa using hl)]
    have alike:∀ i,lo<=i->i<lo+n0->K (arrOf st') i=K (arrOf st') (lo+n0-1):=fun i g1 g2=>by
     have a1:=hs lo i (bV _) g1 g2
     have a2:=hs i (lo+n0-1) g1 tb_g% tb_g%
     lia
    have me:=K_mirror_equal (xs:=arrOf st') (i:=lo) (j:=lo+n0) tb_g% alike
    show wpS _ _ _ _ (Nk lo (lo+n0) >>= _) _ _
    rw [Ng]
    refine aP (lU (key _ _ ⟨Nq _ _ _ _,fun i hi=>?_⟩ (fun i g1 g2=>?_) ?_))
    ·rw [Gs tb_g%,if_neg tb_g%]
    ·rw [me,me];exact alike i g1 g2
    ·rw [me,me];exact hlt'
  ·rw [if_neg hn1]
   refine key _ (arrOf st') (Within.refl _ _ _) (fun i g1 g2=>?_) hlt'
   rw [show i=lo+n0-1 by lia]
end
noncomputable def kv (p:Keyed):Int:=Rk.R p
noncomputable def Asc (l:List Keyed):Prop:=l.Pairwise fun x y=>kv x<=kv y
structure Mg (A B out ra rb:List Keyed):Prop where
 perm:(out++(ra++rb)).Perm (A++B)
 srt:Asc out
 sa:Asc ra
 sb:Asc rb
 le:∀ x∈out,∀ y∈ra++rb,kv x<=kv y
theorem QX {l:List Keyed} {x:Keyed} (h:Asc l) (hx:∀ y∈l,kv y<=kv x):Asc (l++[x]) :=
 lE.mpr ⟨h,Tw _ _,fun a ha b hb=>by rw [d8.mp hb];exact hx a ha⟩
theorem Mg.QZ {A B out ra rb:List Keyed} {x:Keyed} (h:Mg A B out (x::ra) rb) (hx:∀ y∈rb,kv x<=kv y):Mg A B (out++[x]) ra rb where
 perm:=by have:=h.perm;rw [iW];exact this
 srt:=QX h.srt fun y hy=>h.le y hy x (by simp)
 sa:=(iV.mp h.sa).2
 sb:=h.sb
 le:=fun y hy z hz=>by
  rcases dg.mp hy with m | m
  ·exact h.le y m z (by rcases dg.mp hz with q | q <;> simp [q])
  ·rw [d8.mp m]
   rcases dg.mp hz with q | q
   ·exact (iV.mp h.sa).1 z q
   ·exact hx z q
theorem Mg.Km {A B out ra rb:List Keyed} {x:Keyed} (h:Mg A B out ra (x::rb)) (hx:∀ y∈ra,kv x<=kv y):Mg A B (out++[x]) ra rb where
 perm:=by
  refine List.Perm.trans ?_ h.perm
  rw [iW]
  exact Gx _ (Ub (l₁:=ra) (l₂:=rb) (a:=x)).symm
 srt:=QX h.srt fun y hy=>h.le y hy x (by simp)
 sa:=h.sa
 sb:=(iV.mp h.sb).2
 le:=fun y hy z hz=>by
  rcases dg.mp hy with m | m
  ·exact h.le y m z (by rcases dg.mp hz with q | q <;> simp [q])
  ·rw [d8.mp m]
   rcases dg.mp hz with q | q
   ·exact hx z q
   ·exact (iV.mp h.sb).1 z q
theorem Mg.aeR {A B rb:List Keyed}:∀ {xs out ra:List Keyed},Mg A B out (xs++ra) rb->(∀ x∈xs,∀ y∈rb,kv x<=kv y)->Mg A B (out++xs) ra rb
 | [],out,ra,h,_=>by rw [xg];exact h
 | x::xs,out,ra,h,hx=>by
  have h1:=Mg.QZ (x:=x) (ra:=xs++ra) h (hx x cZ)
  have h2:=Mg.aeR h1 fun z hz=>hx z (gk _ hz)
  rw [iW] at h2
  exact h2
theorem Mg.aeS {A B ra:List Keyed}:∀ {xs out rb:List Keyed},Mg A B out ra (xs++rb)->(∀ x∈xs,∀ y∈ra,kv x<=kv y)->Mg A B (out++xs) ra rb
 | [],out,rb,h,_=>by rw [xg];exact h
 | x::xs,out,rb,h,hx=>by
  have h1:=Mg.Km (x:=x) (rb:=xs++rb) h (hx x cZ)
  have h2:=Mg.aeS h1 fun z hz=>hx z (gk _ hz)
  rw [iW] at h2
  exact h2
structure gB (A B out:List Keyed):Prop where
 perm:out.Perm (A++B)
 srt:Asc out
theorem Mg.aeT {A B out ra rb:List Keyed} (h:Mg A B out ra rb) (hx:∀ x∈ra,∀ y∈rb,kv x<=kv y):gB A B (out++ra++rb) :=
 ⟨by rw [iW];exact h.perm,by
  rw [iW]
  exact lE.mpr ⟨h.srt,lE.mpr ⟨h.sa,h.sb,hx⟩,h.le⟩⟩
theorem Mg.aeU {A B out ra rb:List Keyed} (h:Mg A B out ra rb) (hx:∀ x∈rb,∀ y∈ra,kv x<=kv y):gB A B (out++rb++ra) :=
 ⟨by rw [iW];exact (Gx _ abV).trans h.perm,by
  rw [iW]
  exact lE.mpr ⟨h.srt,lE.mpr ⟨h.sb,h.sa,hx⟩,fun x m y n=>h.le x m y (by rcases dg.mp n with q | q <;> simp [q])⟩⟩
theorem Mg.start {A B:List Keyed} {x:Keyed} {rb:List Keyed} (ha:Asc A) (hb:Asc B) (e:B=x::rb) (hx:∀ y∈A,kv x<=kv y):Mg A B [x] A rb:=by
 have h0:Mg A B [] A B:=⟨Vt _,List.Pairwise.nil,ha,hb,fun _ h=>(nomatch h)⟩
 rw [e] at h0
 have:=h0.Km hx
 rw [<- e] at this
 exact this
structure Mh (A B out ra rb:List Keyed):Prop where
 perm:(ra++(rb++out)).Perm (A++B)
 srt:Asc out
 sa:Asc ra
 sb:Asc rb
 le:∀ x∈ra++rb,∀ y∈out,kv x<=kv y
theorem zA {l:List Keyed} {x:Keyed} (h:Asc (l++[x])):Asc l/\∀ y∈l,kv y<=kv x:=by
 obtain ⟨a,_,b⟩:=lE.mp h
 exact ⟨a,fun y hy=>b y hy x (by simp)⟩
theorem Mh.QZ {A B out ra rb:List Keyed} {x:Keyed} (h:Mh A B out (ra++[x]) rb) (hx:∀ y∈rb,kv y<=kv x):Mh A B (x::out) ra rb where
 perm:=by
  refine List.Perm.trans ?_ h.perm
  rw [iW]
  exact Gx _ (Ub (l₁:=rb) (l₂:=out) (a:=x))
 srt:=iV.mpr ⟨fun y hy=>h.le x (by simp) y hy,h.srt⟩
 sa:=(zA h.sa).1
 sb:=h.sb
 le:=fun y hy z hz=>by
  rcases cU.mp hz with m | m
  ·rw [m]
   rcases dg.mp hy with q | q
   ·exact (zA h.sa).2 y q
   ·exact hx y q
  ·exact h.le y (by rcases dg.mp hy with q | q <;> simp [q]) z m
theorem Mh.Km {A B out ra rb:List Keyed} {x:Keyed} (h:Mh A B out ra (rb++[x])) (hx:∀ y∈ra,kv y<=kv x):Mh A B (x::out) ra rb where
 perm:=by
  refine List.Perm.trans (aiI ?_) h.perm
  simp
 srt:=iV.mpr ⟨fun y hy=>h.le x (by simp) y hy,h.srt⟩
 sa:=h.sa
 sb:=(zA h.sb).1
 le:=fun y hy z hz=>by
  rcases cU.mp hz with m | m
  ·rw [m]
   rcases dg.mp hy with q | q
   ·exact hx y q
   ·exact (zA h.sb).2 y q
  ·exact h.le y (by rcases dg.mp hy with q | q <;> simp [q]) z m
theorem Mh.aeR {A B ra rb:List Keyed}:∀ {xs:List Keyed} {out:List Keyed},Mh A B out (ra++xs.reverse) rb->(∀ x∈xs,∀ y∈rb,kv y<=kv x)->Mh A B (xs.reverse++out) ra rb
 | [],out,h,_=>by simpa using h
 | x::xs,out,h,hx=>by
  rw [wX,<- iW] at h
  have h2:=Mh.aeR (xs:=xs) (h.QZ (hx x cZ)) fun z hz=>hx z (gk _ hz)
  rw [wX,iW]
  exact h2
theorem Mh.aeS {A B ra rb:List Keyed}:∀ {xs:List Keyed} {out:List Keyed},Mh A B out ra (rb++xs.reverse)->(∀ x∈xs,∀ y∈ra,kv y<=kv x)->Mh A B (xs.reverse++out) ra rb
 | [],out,h,_=>by simpa using h
 | x::xs,out,h,hx=>by
  rw [wX,<- iW] at h
  have h2:=Mh.aeS (xs:=xs) (h.Km (hx x cZ)) fun z hz=>hx z (gk _ hz)
  rw [wX,iW]
  exact h2
theorem Mh.aeT {A B out ra rb:List Keyed} (h:Mh A B out ra rb) (hx:∀ x∈ra,∀ y∈rb,kv x<=kv y):gB A B (ra++rb++out) :=
 ⟨by rw [iW];exact h.perm,lE.mpr ⟨lE.mpr ⟨h.sa,h.sb,hx⟩,h.srt,h.le⟩⟩
theorem Mh.aeU {A B out ra rb:List Keyed} (h:Mh A B out ra rb) (hx:∀ x∈rb,∀ y∈ra,kv x<=kv y):gB A B (rb++ra++out):=by
 refine ⟨?_,lE.mpr ⟨lE.mpr ⟨h.sb,h.sa,hx⟩,h.srt,fun x m y n=>h.le x (by rcases dg.mp m with q | q <;> simp [q]) y n⟩⟩
 refine List.Perm.trans ?_ h.perm
 rw [<- iW]
 exact adG _ abV
theorem Hz {a:Array Keyed} {i:Nat} (h:i<a.toList.length):kv (a.toList[i])=K a i:=by
 unfold K kv
 have:a[i]? = some a.toList[i]:=by rw [<- iD];exact gR h
 rw [this]
theorem lJ {a:Array Keyed} {i:Nat} {x:Keyed} (h:x∈a.toList.drop i):∃ j,i<=j/\j<a.size/\kv x=K a j:=by
 obtain ⟨j,hj,e⟩:=wW.mp h
 rw [T8] at e
 rw [wY] at hj
 have hl:a.toList.length=a.size:=fU
 exact ⟨i+j,by lia,by lia,by rw [<- e];exact Hz tb_g%⟩
theorem lK {a:Array Keyed} {i:Nat} {x:Keyed} (h:x∈a.toList.take i):∃ j,j<i/\j<a.size/\kv x=K a j:=by
 obtain ⟨j,hj,e⟩:=wW.mp h
 rw [T9] at e
 rw [gJ] at hj
 have hl:a.toList.length=a.size:=fU
 exact ⟨j,by lia,by lia,by rw [<- e];exact Hz tb_g%⟩
theorem fC {a:Array Keyed} {i:Nat} {x:Keyed} (h:a[i]? = some x):a.toList.drop i=x::a.toList.drop (i+1):=by
 rw [<- iD] at h
 obtain ⟨hi,e⟩:=fQ.mp h
 rw [JK hi,e]
theorem pB {a:Array Keyed} {i:Nat} {x:Keyed} (h:a[i]? = some x):a.toList.take (i+1)=a.toList.take i++[x]:=by
 rw [<- iD] at h
 rw [vY,h];rfl
theorem zB {a:Array Keyed} {i k:Nat}:a.toList.drop i=(a.extract i (i+k)).toList++a.toList.drop (i+k):=by
 rw [Bo,JL,show i+k-i=k by lia,<- acf,FT]
theorem vB {a:Array Keyed} {i k:Nat} {x:Keyed} (h:x∈(a.extract i k).toList):∃ j,i<=j/\j<k/\j<a.size/\kv x=K a j:=by
 rw [Bo,JL] at h
 obtain ⟨j,hj,e⟩:=wW.mp h
 rw [T9,T8] at e
 rw [gJ,wY] at hj
 have hl:a.toList.length=a.size:=fU
 exact ⟨i+j,by lia,by lia,by lia,by rw [<- e];exact Hz tb_g%⟩
theorem Q5 {a:Array Keyed} {i k:Nat} (h:i<=k):a.toList.take k=a.toList.take i++(a.extract i k).toList:=by
 rw [Bo,JL]
 conv=>lhs;rw [show k=i+(k-i) by lia,List.take_add]
theorem vC {a:Array Keyed} {i:Nat} {x:Keyed} (h:a[i]? = some x):kv x=K a i:=by unfold K kv;rw [h]
noncomputable def Lo (a b out:Array Keyed) (ia ib:Nat):Prop:=Mg a.toList b.toList out.toList (a.toList.drop ia) (b.toList.drop ib)
theorem Lo.a {a b out:Array Keyed} {ia ib:Nat} {x:Keyed} (h:Lo a b out ia ib) (e:a[ia]? = some x) (hx:∀ j,ib<=j->j<b.size->K a ia<=K b j):Lo a b (out.push x) (ia+1) ib:=by
 unfold Lo at h ⊢
 rw [fC e] at h
 rw [uq]
 exact h.QZ fun y hy=>by obtain ⟨j,h1,h2,h3⟩:=lJ hy;rw [vC e,h3];exact hx j h1 h2
theorem Lo.b {a b out:Array Keyed} {ia ib:Nat} {x:Keyed} (h:Lo a b out ia ib) (e:b[ib]? = some x) (hx:∀ j,ia<=j->j<a.size->K b ib<=K a j):Lo a b (out.push x) ia (ib+1):=by
 unfold Lo at h ⊢
 rw [fC e] at h
 rw [uq]
 exact h.Km fun y hy=>by obtain ⟨j,h1,h2,h3⟩:=lJ hy;rw [vC e,h3];exact hx j h1 h2
theorem Lo.as {a b out:Array Keyed} {ia ib k:Nat} (h:Lo a b out ia ib) (hx:∀ i j,ia<=i->i<ia+k->i<a.size->ib<=j->j<b.size->K a i<=K b j):Lo a b (out++a.extract ia (ia+k)) (ia+k) ib:=by
 unfold Lo at h ⊢
 rw [zB (k:=k)] at h
 rw [sX]
 exact h.aeR fun x hx' y hy=>by
  obtain ⟨i,g1,g2,g3,g4⟩:=vB hx'
  obtain ⟨j,h1,h2,h3⟩:=lJ hy
  rw [g4,h3];exact hx i j g1 g2 g3 h1 h2
theorem Lo.bs {a b out:Array Keyed} {ia ib k:Nat} (h:Lo a b out ia ib) (hx:∀ i j,ib<=i->i<ib+k->i<b.size->ia<=j->j<a.size->K b i<=K a j):Lo a b (out++b.extract ib (ib+k)) ia (ib+k):=by
 unfold Lo at h ⊢
 rw [zB (a:=b) (k:=k)] at h
 rw [sX]
 exact h.aeS fun x hx' y hy=>by
  obtain ⟨i,g1,g2,g3,g4⟩:=vB hx'
  obtain ⟨j,h1,h2,h3⟩:=lJ hy
  rw [g4,h3];exact hx i j g1 g2 g3 h1 h2
theorem Eu (a:Array Keyed) (i:Nat):(a.extract i a.size).toList=a.toList.drop i:=by
 rw [Bo,JL]
 exact oO (by rw [wY,fU];lia)
theorem Lo.done {a b out:Array Keyed} {ia ib:Nat} (h:Lo a b out ia ib) (hx:∀ i j,ia<=i->i<a.size->ib<=j->j<b.size->K a i<=K b j):gB a.toList b.toList (out++a.extract ia a.size++b.extract ib b.size).toList:=by
 rw [sX,sX,Eu,Eu]
 exact Mg.aeT h fun x hx' y hy=>by
  obtain ⟨i,g1,g2,g3⟩:=lJ hx'
  obtain ⟨j,h1,h2,h3⟩:=lJ hy
  rw [g3,h3];exact hx i j g1 g2 h1 h2
theorem Lo.last {a b out:Array Keyed} {ia ib:Nat} (h:Lo a b out ia ib) (hx:∀ i j,ib<=i->i<b.size->ia<=j->j<a.size->K b i<=K a j):gB a.toList b.toList (out++b.extract ib b.size++a.extract ia a.size).toList:=by
 rw [sX,sX,Eu,Eu]
 exact Mg.aeU h fun x hx' y hy=>by
  obtain ⟨i,g1,g2,g3⟩:=lJ hx'
  obtain ⟨j,h1,h2,h3⟩:=lJ hy
  rw [g3,h3];exact hx i j g1 g2 h1 h2
noncomputable def Hi (a b out:Array Keyed) (na nb:Nat):Prop:=Mh a.toList b.toList out.toList.reverse (a.toList.take na) (b.toList.take nb)
theorem Hi.a {a b out:Array Keyed} {na nb:Nat} {x:Keyed} (h:Hi a b out (na+1) nb) (e:a[na]? = some x) (hx:∀ j,j<nb->j<b.size->K b j<=K a na):Hi a b (out.push x) na nb:=by
 unfold Hi at h ⊢
 rw [pB e] at h
 rw [uq,CZ,abT,abW]
 exact h.QZ fun y hy=>by obtain ⟨j,h1,h2,h3⟩:=lK hy;rw [vC e,h3];exact hx j h1 h2
theorem Hi.b {a b out:Array Keyed} {na nb:Nat} {x:Keyed} (h:Hi a b out na (nb+1)) (e:b[nb]? = some x) (hx:∀ j,j<na->j<a.size->K a j<=K b nb):Hi a b (out.push x) na nb:=by
 unfold Hi at h ⊢
 rw [pB e] at h
 rw [uq,CZ,abT,abW]
 exact h.Km fun y hy=>by obtain ⟨j,h1,h2,h3⟩:=lK hy;rw [vC e,h3];exact hx j h1 h2
theorem Hi.as {a b out:Array Keyed} {na nb k:Nat} (h:Hi a b out na nb) (hk:k<=na) (hx:∀ i j,k<=i->i<na->i<a.size->j<nb->j<b.size->K b j<=K a i):Hi a b (out++(a.extract k na).reverse) k nb:=by
 unfold Hi at h ⊢
 rw [Q5 hk] at h
 rw [sX,CZ,Bq]
 refine Mh.aeR (out:=out.toList.reverse) (by rw [FW];exact h) fun x hx' y hy=>?_
 obtain ⟨i,g1,g2,g3,g4⟩:=vB (tZ.mp hx')
 obtain ⟨j,h1,h2,h3⟩:=lK hy
 rw [g4,h3];exact hx i j g1 g2 g3 h1 h2
theorem Hi.bs {a b out:Array Keyed} {na nb k:Nat} (h:Hi a b out na nb) (hk:k<=nb) (hx:∀ i j,k<=i->i<nb->i<b.size->j<na->j<a.size->K a j<=K b i):Hi a b (out++(b.extract k nb).reverse) na k:=by
 unfold Hi at h ⊢
 rw [Q5 (a:=b) hk] at h
 rw [sX,CZ,Bq]
 refine Mh.aeS (out:=out.toList.reverse) (by rw [FW];exact h) fun x hx' y hy=>?_
 obtain ⟨i,g1,g2,g3,g4⟩:=vB (tZ.mp hx')
 obtain ⟨j,h1,h2,h3⟩:=lK hy
 rw [g4,h3];exact hx i j g1 g2 g3 h1 h2
theorem zE (a:Array Keyed) (i:Nat):(a.extract 0 i).toList=a.toList.take i:=by
 rw [Bo,JL];rfl
theorem Hi.done {a b out:Array Keyed} {na nb:Nat} (h:Hi a b out na nb) (hx:∀ i j,i<na->i<a.size->j<nb->j<b.size->K a i<=K b j):gB a.toList b.toList (a.extract 0 na++b.extract 0 nb++out.reverse).toList:=by
 rw [sX,sX,zE,zE,Bq]
 exact Mh.aeT h fun x hx' y hy=>by
  obtain ⟨i,g1,g2,g3⟩:=lK hx'
  obtain ⟨j,h1,h2,h3⟩:=lK hy
  rw [g3,h3];exact hx i j g1 g2 h1 h2
theorem Hi.first {a b out:Array Keyed} {na nb:Nat} (h:Hi a b out na nb) (hx:∀ i j,i<nb->i<b.size->j<na->j<a.size->K b i<=K a j):gB a.toList b.toList (b.extract 0 nb++a.extract 0 na++out.reverse).toList:=by
 rw [sX,sX,zE,zE,Bq]
 exact Mh.aeU h fun x hx' y hy=>by
  obtain ⟨i,g1,g2,g3⟩:=lK hx'
  obtain ⟨j,h1,h2,h3⟩:=lK hy
  rw [g3,h3];exact hx i j g1 g2 h1 h2
theorem O5 {a:Array Keyed} (h:Srt a 0 a.size):Asc a.toList:=by
 refine JM.mpr fun i j hi hj hij=>?_
 rw [Hz hi,Hz hj]
 exact h i j (cB _) (mH hij) (by rw [<- fU];exact hj)
theorem Lo.start {a b:Array Keyed} (ha:Srt a 0 a.size) (hb:Srt b 0 b.size):Lo a b #[] 0 0 :=
 ⟨Vt _,List.Pairwise.nil,O5 ha,O5 hb,fun _ h=>(nomatch h)⟩
theorem Hi.start {a b:Array Keyed} (ha:Srt a 0 a.size) (hb:Srt b 0 b.size):Hi a b #[] a.size b.size:=by
 have e1:a.toList.take a.size=a.toList:=oO (by rw [fU];exact bV _)
 have e2:b.toList.take b.size=b.toList:=oO (by rw [fU];exact bV _)
 unfold Hi
 rw [e1,e2]
 exact ⟨by simp,List.Pairwise.nil,O5 ha,O5 hb,fun _ _ _ h=>(nomatch h)⟩
noncomputable def mlo:Array Keyed->Array Keyed->StateT SortSt Sem (Array Keyed):=sortPriv% PySem.Builtin.mergeLo
section
variable {prog:aN} {w:World} {A:bC} {E:Value->Shared->Prop} {s:Shared}
theorem cH {α:Type} {c:Prop} [Decidable c] {x y:StateT SortSt Sem α} {Q:α->SortSt->Prop} {st:SortSt} (hc:c) (h:wpS (model prog w) A E s x Q st):wpS (model prog w) A E s (if c then x else y) Q st:=by rw [if_pos hc];exact h
theorem cA {α:Type} {c:Prop} [Decidable c] {x y:StateT SortSt Sem α} {Q:α->SortSt->Prop} {st:SortSt} (hc:¬ c) (h:wpS (model prog w) A E s y Q st):wpS (model prog w) A E s (if c then x else y) Q st:=by rw [if_neg hc];exact h
end
section
variable {prog:aN} {w:World} {A:bC} {E:Value->Shared->Prop} {s:Shared} [Rl prog w A E s]
noncomputable abbrev setG (st:SortSt) (g:Nat):SortSt:=rA (kindOf st) (arrOf st) (dU st) g (lV st)
noncomputable def zF:Nat->StateT SortSt Sem Unit:=sortPriv% PySem.Builtin.setMinGallop
theorem rM (g:Nat):zF g=modify fun s=>setG s g:=rfl
theorem vD {α:Type} {x:StateT SortSt Sem α} {Q:α->SortSt->Prop} {st:SortSt} (h:∀ Q':α->SortSt->Prop,(∀ r u,Q r u->Q' r u)->wpS (model prog w) A E s x Q' st):wpS (model prog w) A E s x Q st:=h Q fun _ _ z=>z
theorem agI {a b:Array Keyed} {st:SortSt} {Q:Array Keyed->SortSt->Prop} (hk:kindOf st=kd0) (ka:IntKeys a) (kb:IntKeys b) (sa:Srt a 0 a.size) (sb:Srt b 0 b.size) (na:1<=a.size) (nb:1<=b.size)
  (hF:∀ i,i<a.size->K b 0<=K a i) (hL:∀ j,j<b.size->K b j<=K a (a.size-1)) (h:∀ out g,gB a.toList b.toList out.toList->Q out (setG st g)) :
  wpS (model prog w) A E s (mlo a b) Q st:=by
 refine aP (xO (jY ⟨rfl,?_⟩))
 k_dat (total,htot) "b"
 k_dat (done,hdone) "b"
 k_dat (lastOfA,ahT) "b"
 have ea:∀ i,i<a.size->∃ (t:Keyed) (_:Is t (K a i)),a[i]? = some t:=fun i hi=>yj ka hi
 have eb:∀ i,i<b.size->∃ (t:Keyed) (_:Is t (K b i)),b[i]? = some t:=fun i hi=>yj kb hi
 have uK:∀ out ia ib,Lo a b out ia ib->(b.size<=ib\/a.size<=ia)->gB a.toList b.toList (done out ia ib).toList:=fun out ia ib hl hc=>by
  rw [hdone];exact hl.done fun i j h1 h2 h3 h4=>by lia
 have Zo:∀ out ia ib,Lo a b out ia ib->ia+1=a.size->gB a.toList b.toList (lastOfA out ia ib).toList:=fun out ia ib hl hc=>by
  rw [ahT];exact hl.last fun i j h1 h2 h3 h4=>by
   have:j=a.size-1:=by lia
   subst this;exact hL i h2
 clear hdone ahT
 obtain ⟨t0,q0,e0⟩:=eb 0 nb
 refine aP (dI e0 ?_)
 k_dat (XR,Q6) "b"
 k_dat (ia0,hia0) "b"
 k_dat (ib0,hib0) "b"
 have hLo:Lo a b XR ia0 ib0:=by
  subst Q6 hia0 hib0
  exact (Lo.start sa sb).b e0 fun j _ hj=>hF j hj
 by_cases c1:ib0=b.size
 ·k_dat (cH,c1) "f"
  exact aZ (h _ (ux st) (uK _ _ _ hLo (.inl tb_g%)))
 k_dat (cA,c1) "f"
 by_cases c2:ia0+1=a.size
 ·k_dat (cH,c2) "f"
  exact aZ (h _ (ux st) (Zo _ _ _ hLo c2))
 k_dat (cA,c2) "f"
 have ba0:ia0+1<a.size:=by lia
 have bb0:ib0<b.size:=by lia
 clear Q6 hia0 hib0 c1 c2
 refine aP (pW ?_)
 k_dat (mg0,hmg0) "b"
 clear hmg0
 refine aP (gn (jX (I:=fun x c st'=>(∃ g,st'=setG st g)/\∃ out ia ib mg,c=(none,out,ia,ib,mg)/\Lo a b out ia ib/\ia+1<a.size/\ib<b.size/\x<=ia+ib)
  (Q:=fun c st'=>(∃ g,st'=setG st g)/\∃ r c',c=(some r,c')/\gB a.toList b.toList r.toList) ?_ ?_ ⟨⟨ux st,rfl⟩,XR,ia0,ib0,mg0,rfl,hLo,ba0,bb0,by lia⟩) ?_)
 ·rintro x c st' _ hx ⟨⟨g,rfl⟩,out,ia,ib,mg,rfl,hl,ba,bb,hp⟩
  refine vD fun Q0 hQ0=>?_
  walk_at "h"
  walk_at "c"
  refine aP (gn (jX (I:=fun y c st'=>st'=setG st g/\∃ out' ia' ib' ac bc,c=(none,out',ia',ib',ac,bc)/\Lo a b out' ia' ib'/\ia'+1<a.size/\ib'<b.size/\y+(ia+ib)<=ia'+ib')
   (Q:=fun c st'=>st'=setG st g/\((∃ r c',c=(some r,c')/\gB a.toList b.toList r.toList)\/∃ out' ia' ib' ac bc,c=(none,out',ia',ib',ac,bc)/\Lo a b out' ia' ib'/\ia'+1<a.size/\ib'<b.size/\ia+ib+1<=ia'+ib')) ?_ ?_ ⟨rfl,out,ia,ib,0,0,rfl,hl,ba,bb,by lia⟩) ?_)
  ·rintro y c st' _ hy ⟨rfl,out,ia,ib,ac,bc,rfl,hl,ba,bb,hp'⟩
   refine vD fun Q1 hQ1=>?_
   have hM:=fun r c' m=>hQ1 (.done (some r,c')) (setG st g) ⟨rfl,.inl ⟨r,c',rfl,m⟩⟩
   have hN:=fun o i j ac bc h1 h2 h3 h4=>hQ1 (.done (none,o,i,j,ac,bc)) (setG st g) ⟨rfl,.inr ⟨o,i,j,ac,bc,rfl,h1,h2,h3,h4⟩⟩
   have hY:=fun o i j ac bc h1 h2 h3 h4=>hQ1 (.yield (none,o,i,j,ac,bc)) (setG st g) ⟨rfl,o,i,j,ac,bc,rfl,h1,h2,h3,h4⟩
   clear hQ1
   walk_at "h"
   walk_at "c"
   obtain ⟨t1,q1,e1⟩:=eb ib bb
   obtain ⟨t2,q2,e2⟩:=ea ia tb_g%
   refine aP (dI e1 ?_)
   refine aP (dI e2 ?_)
   refine aP (Hy hk ?_)
   walk_at "c"
   by_cases hw:K b ib<K a ia
   ·refine cH (decide_eq_true hw) ?_
    refine aP (dI e1 ?_)
    iterate 4 (extract_lets +onlyGivenNames -underBinder -merge zz;subst zz)
    walk_at "c"
    have hl':=hl.b e1 fun j h1 h2=>iG (oW hw) (sa ia j (cB _) h1 h2)
    by_cases c1:ib+1=b.size
    ·k_dat (cH,c1) "f"
     exact aZ (hM _ _ (uK _ _ _ hl' (.inl tb_g%)))
    k_dat (cA,c1) "f"
    by_cases c2:bc+1>=mg
    ·refine cH c2 ?_
     exact aZ (hN _ _ _ _ _ hl' ba tb_g% tb_g%)
    ·refine cA c2 ?_
     exact aZ (hY _ _ _ _ _ hl' ba tb_g% tb_g%)
   ·k_dat (cA,hw) "f"
    refine aP (dI e2 ?_)
    iterate 4 (extract_lets +onlyGivenNames -underBinder -merge zz;subst zz)
    walk_at "c"
    have hl':=hl.a e2 fun j h1 h2=>iG (jH.mp hw) (sb ib j (cB _) h1 h2)
    by_cases c1:ia+1+1=a.size
    ·k_dat (cH,c1) "f"
     exact aZ (hM _ _ (Zo _ _ _ hl' c1))
    k_dat (cA,c1) "f"
    by_cases c2:ac+1>=mg
    ·refine cH c2 ?_
     exact aZ (hN _ _ _ _ _ hl' tb_g% bb tb_g%)
    ·refine cA c2 ?_
     exact aZ (hY _ _ _ _ _ hl' tb_g% bb tb_g%)
  ·rintro c st' ⟨rfl,out,ia,ib,ac,bc,rfl,hl,ba,bb,hp'⟩
   lia
  rintro c st' ⟨rfl,(⟨r,c',rfl,hm⟩ | ⟨out1,ia1,ib1,ac,bc,rfl,hl1,ba1,bb1,hp1⟩)⟩
  ·iterate 10 (extract_lets +onlyGivenNames -underBinder -merge zz;subst zz)
   walk_at "c"
   walk_at "c"
   exact aZ (hQ0 _ _ ⟨⟨g,rfl⟩,r,_,rfl,hm⟩)
  iterate 10 (extract_lets +onlyGivenNames -underBinder -merge zz;subst zz)
  walk_at "c"
  walk_at "c"
  refine aP (xO (jY ⟨rfl,?_⟩))
  walk_at "d"
  walk_at "c"
  refine aP (gn (jX (I:=fun y c st'=>(∃ g,st'=setG st g)/\∃ out' ia' ib' mg ac bc,c=(none,out',ia',ib',mg,ac,bc)/\Lo a b out' ia' ib'/\ia'+1<a.size/\ib'<b.size/\y+(ia1+ib1)<=ia'+ib')
   (Q:=fun c st'=>(∃ g,st'=setG st g)/\((∃ r c',c=(some r,c')/\gB a.toList b.toList r.toList)\/∃ out' ia' ib' mg ac bc,c=(none,out',ia',ib',mg,ac,bc)/\Lo a b out' ia' ib'/\ia'+1<a.size/\ib'<b.size/\ia1+ib1<=ia'+ib')) ?_ ?_ ⟨⟨g,rfl⟩,out1,ia1,ib1,_,ac,bc,rfl,hl1,ba1,bb1,by lia⟩) ?_)
  ·rintro y c st' _ hy ⟨⟨g,rfl⟩,out,ia,ib,mg,ac,bc,rfl,hl,ba,bb,hp'⟩
   refine vD fun Q2 hQ2=>?_
   have hM:=fun g r c' m=>hQ2 (.done (some r,c')) (setG st g) ⟨⟨g,rfl⟩,.inl ⟨r,c',rfl,m⟩⟩
   have hN:=fun g o i j mg ac bc h1 h2 h3 h4=>hQ2 (.done (none,o,i,j,mg,ac,bc)) (setG st g) ⟨⟨g,rfl⟩,.inr ⟨o,i,j,mg,ac,bc,rfl,h1,h2,h3,h4⟩⟩
   have hY:=fun g o i j mg ac bc h1 h2 h3 h4=>hQ2 (.yield (none,o,i,j,mg,ac,bc)) (setG st g) ⟨⟨g,rfl⟩,o,i,j,mg,ac,bc,rfl,h1,h2,h3,h4⟩
   clear hQ2
   iterate 11 (extract_lets +onlyGivenNames -underBinder -merge zz;subst zz)
   walk_at "c"
   k_dat (jp,hjp) "b"
   have key:∀ u mg,wpS (model prog w) A E s (jp u mg) Q2 (setG st g):=by
    intro u mg
    rw [hjp]
    clear hjp jp
    refine aP ?_
    show wpS _ _ _ _ (zF mg) _ _
    rw [rM]
    refine lU ?_
    show wpS _ _ _ _ _ _ (setG st mg)
    obtain ⟨t1,q1,e1⟩:=eb ib bb
    refine aP (dI e1 ?_)
    refine aP (kE (st:=setG st mg) hk (fun i h1 h2=>?_) tb_g% (fun i j h1 h2 h3=>?_) fun k hk1 hk2 hk3=>?_)
    ·exact ea i tb_g%
    ·simp only [bey,uz,if_false,xT,decide_eq_false_iff_not,jH] at h3 ⊢
     exact iG (sa _ _ (cB _) tb_g% tb_g%) h3
    simp only [bey,uz,if_false,xT,Vl,decide_eq_true_eq,decide_eq_false_iff_not,jH] at hk2 hk3
    walk_at "c"
    walk_at "d"
    walk_at "c"
    k_dat (jp2,Eb) "b"
    have key2:∀ u out ia',Lo a b out ia' ib->ia'+1<a.size->ia<=ia'->(∀ j,ia'<=j->j<a.size->K b ib<=K a j)->wpS (model prog w) A E s (jp2 u out ia') Q2 (setG st mg):=by
     intro u out ia' hl ba' hle hge
     rw [Eb]
     clear Eb jp2
     refine aP (dI e1 ?_)
     walk_at "g"
     walk_at "c"
     have hl':=hl.b e1 hge
     by_cases c1:ib+1=b.size
     ·k_dat (cH,c1) "f"
      exact aZ (hM mg _ _ (uK _ _ _ hl' (.inl tb_g%)))
     k_dat (cA,c1) "f"
     obtain ⟨t2,q2,e2⟩:=ea ia' tb_g%
     refine aP (dI e2 ?_)
     refine aP (kE (st:=setG st mg) hk (fun i h1 h2=>?_) tb_g% (fun i j h1 h2 h3=>?_) fun k hk1 hk2 hk3=>?_)
     ·exact eb i tb_g%
     ·simp only [bey,if_true,decide_eq_true_eq] at h3 ⊢
      exact Vb (sb _ _ (cB _) tb_g% tb_g%) h3
     simp only [bey,if_true,decide_eq_true_eq,decide_eq_false_iff_not,jH] at hk2 hk3
     walk_at "c"
     walk_at "d"
     walk_at "c"
     k_dat (jp3,XS) "b"
     have aeV:∀ u out ib',Lo a b out ia' ib'->ib'<b.size->ib+1<=ib'->(∀ j,ib'<=j->j<b.size->K a ia'<=K b j)->wpS (model prog w) A E s (jp3 u out ib') Q2 (setG st mg):=by
      intro u out ib' hl bb' hle' hge'
      rw [XS]
      clear XS jp3
      refine aP (dI e2 ?_)
      walk_at "g"
      walk_at "c"
      have hl':=hl.a e2 hge'
      by_cases c1:ia'+1+1=a.size
      ·k_dat (cH,c1) "f"
       exact aZ (hM mg _ _ (Zo _ _ _ hl' c1))
      k_dat (cA,c1) "f"
      split
      ·exact aZ (hN mg _ _ _ _ _ _ hl' tb_g% tb_g% tb_g%)
      ·exact aZ (hY mg _ _ _ _ _ _ hl' tb_g% tb_g% tb_g%)
     clear XS
     by_cases hk0:k>0
     ·refine cH hk0 ?_
      walk_at "g"
      walk_at "c"
      have hl2:=hl'.bs (k:=k) fun i j h1 h2 h3 h4 h5=>by
       have:=hk2 (i-(ib+1)) tb_g%
       rw [show ib+1+(i-(ib+1))=i by lia] at this
       exact iG (oW this) (sa _ _ (cB _) h4 h5)
      by_cases c2:ib+1+k=b.size
      ·k_dat (cH,c2) "f"
       exact aZ (hM mg _ _ (uK _ _ _ hl2 (.inl tb_g%)))
      k_dat (cA,c2) "f"
      refine aeV _ _ _ hl2 tb_g% tb_g% fun j h1 h2=>?_
      have:=hk3 (j-(ib+1)) tb_g% tb_g%
      rw [show ib+1+(j-(ib+1))=j by lia] at this
      exact this
     ·refine cA hk0 ?_
      refine aeV _ _ _ hl' tb_g% tb_g% fun j h1 h2=>?_
      have:=hk3 (j-(ib+1)) tb_g% tb_g%
      rw [show ib+1+(j-(ib+1))=j by lia] at this
      exact this
    clear Eb
    by_cases hk0:k>0
    ·refine cH hk0 ?_
     walk_at "g"
     walk_at "c"
     have hl2:=hl.as (k:=k) fun i j h1 h2 h3 h4 h5=>by
      have:=hk2 (i-ia) tb_g%
      rw [show ia+(i-ia)=i by lia] at this
      exact iG this (sb _ _ (cB _) h4 h5)
     by_cases c2:ia+k+1=a.size
     ·k_dat (cH,c2) "f"
      exact aZ (hM mg _ _ (Zo _ _ _ hl2 c2))
     k_dat (cA,c2) "f"
     by_cases c3:ia+k=a.size
     ·k_dat (cH,c3) "f"
      exact aZ (hM mg _ _ (uK _ _ _ hl2 (.inr tb_g%)))
     k_dat (cA,c3) "f"
     refine key2 _ _ _ hl2 tb_g% tb_g% fun j h1 h2=>?_
     have:=hk3 (j-ia) tb_g% tb_g%
     rw [show ia+(j-ia)=j by lia] at this
     exact oW this
    ·refine cA hk0 ?_
     refine key2 _ _ _ hl tb_g% tb_g% fun j h1 h2=>?_
     have:=hk3 (j-ia) tb_g% tb_g%
     rw [show ia+(j-ia)=j by lia] at this
     exact oW this
   clear hjp
   split
   ·walk_at "d"
    walk_at "c"
    exact key _ _
   ·exact key _ _
  ·rintro c st' ⟨_,out,ia,ib,mg,ac,bc,rfl,hl,ba,bb,hp'⟩
   lia
  rintro c st' ⟨⟨g,rfl⟩,(⟨r,c',rfl,hm⟩ | ⟨out2,ia2,ib2,mg2,ac,bc,rfl,hl2,ba2,bb2,hp2⟩)⟩
  ·walk_at "h"
   walk_at "c"
   walk_at "c"
   exact aZ (hQ0 _ _ ⟨⟨g,rfl⟩,r,_,rfl,hm⟩)
  walk_at "h"
  walk_at "c"
  walk_at "c"
  walk_at "d"
  walk_at "c"
  refine aP ?_
  show wpS _ _ _ _ (zF _) _ _
  rw [rM]
  refine lU (aZ (hQ0 _ _ ⟨⟨_,rfl⟩,_,_,_,_,rfl,hl2,ba2,bb2,by lia⟩))
 ·rintro c st' ⟨_,out,ia,ib,mg,rfl,hl,ba,bb,hp⟩
  lia
 ·rintro c st' ⟨⟨g,rfl⟩,r,c',rfl,hm⟩
  walk_at "d"
  walk_at "c"
  walk_at "c"
  exact aZ (h _ _ hm)
end
noncomputable def mhi:Array Keyed->Array Keyed->StateT SortSt Sem (Array Keyed):=sortPriv% PySem.Builtin.mergeHi
section
variable {prog:aN} {w:World} {A:bC} {E:Value->Shared->Prop} {s:Shared} [Rl prog w A E s]
theorem Hi.a' {a b out:Array Keyed} {na nb:Nat} {x:Keyed} (h:Hi a b out na nb) (h0:0<na) (e:a[na-1]? = some x) (hx:∀ j,j<nb->j<b.size->K b j<=K a (na-1)):Hi a b (out.push x) (na-1) nb:=by
 refine Hi.a ?_ e hx
 rw [show na-1+1=na by lia];exact h
theorem Hi.b' {a b out:Array Keyed} {na nb:Nat} {x:Keyed} (h:Hi a b out na nb) (h0:0<nb) (e:b[nb-1]? = some x) (hx:∀ j,j<na->j<a.size->K a j<=K b (nb-1)):Hi a b (out.push x) na (nb-1):=by
 refine Hi.b ?_ e hx
 rw [show nb-1+1=nb by lia];exact h
theorem agJ {a b:Array Keyed} {st:SortSt} {Q:Array Keyed->SortSt->Prop} (hk:kindOf st=kd0) (ka:IntKeys a) (kb:IntKeys b) (sa:Srt a 0 a.size) (sb:Srt b 0 b.size) (na:1<=a.size) (nb:1<=b.size)
  (hF:∀ i,i<a.size->K b 0<=K a i) (hL:∀ j,j<b.size->K b j<=K a (a.size-1)) (h:∀ out g,gB a.toList b.toList out.toList->Q out (setG st g)) :
  wpS (model prog w) A E s (mhi a b) Q st:=by
 refine aP (xO (jY ⟨rfl,?_⟩))
 k_dat (total,htot) "b"
 k_dat (done,hdone) "b"
 k_dat (firstOfB,hfirst) "b"
 have ea:∀ i,i<a.size->∃ (t:Keyed) (_:Is t (K a i)),a[i]? = some t:=fun i hi=>yj ka hi
 have eb:∀ i,i<b.size->∃ (t:Keyed) (_:Is t (K b i)),b[i]? = some t:=fun i hi=>yj kb hi
 have uK:∀ out na nb,Hi a b out na nb->(na=0\/nb=0)->gB a.toList b.toList (done out na nb).toList:=fun out na nb hl hc=>by
  rw [hdone];exact hl.done fun i j h1 h2 h3 h4=>by lia
 have O6:∀ out na nb,Hi a b out na nb->nb=1->gB a.toList b.toList (firstOfB out na nb).toList:=fun out na nb hl hc=>by
  rw [hfirst];exact hl.first fun i j h1 h2 h3 h4=>by
   have:i=0:=by lia
   subst this;exact hF j h4
 clear hdone hfirst
 k_dat (na0,hna0) "b"
 k_dat (nb0,hnb0) "b"
 obtain ⟨t0,q0,e0⟩:=ea na0 tb_g%
 refine aP (dI e0 ?_)
 k_dat (XR,Q6) "b"
 have hHi:Hi a b XR na0 nb0:=by
  subst Q6 hnb0 hna0
  exact (Hi.start sa sb).a' tb_g% e0 fun j _ hj=>hL j hj
 by_cases c1:na0=0
 ·k_dat (cH,c1) "f"
  exact aZ (h _ (ux st) (uK _ _ _ hHi (.inl c1)))
 k_dat (cA,c1) "f"
 by_cases c2:nb0=1
 ·k_dat (cH,c2) "f"
  exact aZ (h _ (ux st) (O6 _ _ _ hHi c2))
 k_dat (cA,c2) "f"
 have ba0:0<na0:=by lia
 have bb0:1<nb0:=by lia
 have la0:na0<=a.size:=by lia
 have lb0:nb0<=b.size:=by lia
 clear Q6 hna0 hnb0 c1 c2
 refine aP (pW ?_)
 k_dat (mg0,hmg0) "b"
 clear hmg0
 refine aP (gn (jX (a:=0) (b:=total) (I:=fun x c st'=>(∃ g,st'=setG st g)/\∃ (out:Array Keyed) (na nb mg:Nat),c=(none,na,nb,out,mg)/\Hi a b out na nb/\(0<na/\na<=a.size)/\(1<nb/\nb<=b.size)/\x+na+nb<=total)
  (Q:=fun c st'=>(∃ g,st'=setG st g)/\∃ (r:Array Keyed) (c':_),c=(some r,c')/\gB a.toList b.toList r.toList) ?_ ?_ ⟨⟨ux st,rfl⟩,XR,na0,nb0,mg0,rfl,hHi,⟨ba0,la0⟩,⟨bb0,lb0⟩,by lia⟩) ?_)
 ·rintro x c st' _ hx ⟨⟨g,rfl⟩,out,na,nb,mg,rfl,hl,ba,bb,hp⟩
  refine vD fun Q0 hQ0=>?_
  walk_at "h"
  walk_at "c"
  refine aP (gn (jX (a:=0) (b:=total) (I:=fun y c st'=>st'=setG st g/\∃ out' na' nb' ac bc,c=(none,na',nb',out',ac,bc)/\Hi a b out' na' nb'/\(0<na'/\na'<=a.size)/\(1<nb'/\nb'<=b.size)/\y+na'+nb'<=na+nb)
   (Q:=fun c st'=>st'=setG st g/\((∃ (r:Array Keyed) (c':_),c=(some r,c')/\gB a.toList b.toList r.toList)\/∃ out' na' nb' ac bc,c=(none,na',nb',out',ac,bc)/\Hi a b out' na' nb'/\(0<na'/\na'<=a.size)/\(1<nb'/\nb'<=b.size)/\na'+nb'+1<=na+nb)) ?_ ?_ ⟨rfl,out,na,nb,0,0,rfl,hl,ba,bb,by lia⟩) ?_)
  ·rintro y c st' _ hy ⟨rfl,out,na,nb,ac,bc,rfl,hl,ba,bb,hp'⟩
   refine vD fun Q1 hQ1=>?_
   have hM:=fun r c' m=>hQ1 (.done (some r,c')) (setG st g) ⟨rfl,.inl ⟨r,c',rfl,m⟩⟩
   have hN:=fun o i j ac bc h1 h2 h3 h4=>hQ1 (.done (none,i,j,o,ac,bc)) (setG st g) ⟨rfl,.inr ⟨o,i,j,ac,bc,rfl,h1,h2,h3,h4⟩⟩
   have hY:=fun o i j ac bc h1 h2 h3 h4=>hQ1 (.yield (none,i,j,o,ac,bc)) (setG st g) ⟨rfl,o,i,j,ac,bc,rfl,h1,h2,h3,h4⟩
   clear hQ1
   walk_at "h"
   walk_at "c"
   obtain ⟨t1,q1,e1⟩:=eb (nb-1) tb_g%
   obtain ⟨t2,q2,e2⟩:=ea (na-1) tb_g%
   refine aP (dI e1 ?_)
   refine aP (dI e2 ?_)
   refine aP (Hy hk ?_)
   walk_at "c"
   by_cases hw:K b (nb-1)<K a (na-1)
   ·refine cH (decide_eq_true hw) ?_
    walk_at "d"
    walk_at "c"
    refine aP (dI e2 ?_)
    iterate 3 (extract_lets +onlyGivenNames -underBinder -merge zz;subst zz)
    walk_at "c"
    have hl':=hl.a' ba.1 e2 fun j h1 h2=>iG (sb j (nb-1) (cB _) tb_g% tb_g%) (oW hw)
    by_cases c1:na-1=0
    ·k_dat (cH,c1) "f"
     exact aZ (hM _ _ (uK _ _ _ hl' (.inl c1)))
    k_dat (cA,c1) "f"
    by_cases c2:ac+1>=mg
    ·refine cH c2 ?_
     exact aZ (hN _ _ _ _ _ hl' tb_g% bb tb_g%)
    ·refine cA c2 ?_
     exact aZ (hY _ _ _ _ _ hl' tb_g% bb tb_g%)
   ·k_dat (cA,hw) "f"
    walk_at "d"
    walk_at "c"
    refine aP (dI e1 ?_)
    iterate 3 (extract_lets +onlyGivenNames -underBinder -merge zz;subst zz)
    walk_at "c"
    have hl':=hl.b' tb_g% e1 fun j h1 h2=>iG (sa j (na-1) (cB _) tb_g% tb_g%) (jH.mp hw)
    by_cases c1:nb-1=1
    ·k_dat (cH,c1) "f"
     exact aZ (hM _ _ (O6 _ _ _ hl' c1))
    k_dat (cA,c1) "f"
    by_cases c2:bc+1>=mg
    ·refine cH c2 ?_
     exact aZ (hN _ _ _ _ _ hl' ba tb_g% tb_g%)
    ·refine cA c2 ?_
     exact aZ (hY _ _ _ _ _ hl' ba tb_g% tb_g%)
  ·rintro c st' ⟨rfl,out,na,nb,ac,bc,rfl,hl,ba,bb,hp'⟩
   lia
  rintro c st' ⟨rfl,(⟨r,c',rfl,hm⟩ | ⟨out1,na1,nb1,ac,bc,rfl,hl1,ba1,bb1,hp1⟩)⟩
  ·iterate 10 (extract_lets +onlyGivenNames -underBinder -merge zz;subst zz)
   walk_at "c"
   walk_at "c"
   exact aZ (hQ0 _ _ ⟨⟨g,rfl⟩,r,_,rfl,hm⟩)
  iterate 10 (extract_lets +onlyGivenNames -underBinder -merge zz;subst zz)
  walk_at "c"
  walk_at "c"
  refine aP (xO (jY ⟨rfl,?_⟩))
  walk_at "d"
  walk_at "c"
  refine aP (gn (jX (a:=0) (b:=total) (I:=fun y c st'=>(∃ g,st'=setG st g)/\∃ out' na' nb' mg ac bc,c=(none,na',nb',out',mg,ac,bc)/\Hi a b out' na' nb'/\(0<na'/\na'<=a.size)/\(1<nb'/\nb'<=b.size)/\y+na'+nb'<=na1+nb1)
   (Q:=fun c st'=>(∃ g,st'=setG st g)/\((∃ (r:Array Keyed) (c':_),c=(some r,c')/\gB a.toList b.toList r.toList)\/∃ out' na' nb' mg ac bc,c=(none,na',nb',out',mg,ac,bc)/\Hi a b out' na' nb'/\(0<na'/\na'<=a.size)/\(1<nb'/\nb'<=b.size)/\na'+nb'<=na1+nb1)) ?_ ?_ ⟨⟨g,rfl⟩,out1,na1,nb1,_,ac,bc,rfl,hl1,ba1,bb1,by lia⟩) ?_)
  ·rintro y c st' _ hy ⟨⟨g,rfl⟩,out,na,nb,mg,ac,bc,rfl,hl,ba,bb,hp'⟩
   refine vD fun Q2 hQ2=>?_
   have hM:=fun g r c' m=>hQ2 (.done (some r,c')) (setG st g) ⟨⟨g,rfl⟩,.inl ⟨r,c',rfl,m⟩⟩
   have hN:=fun g o i j mg ac bc h1 h2 h3 h4=>hQ2 (.done (none,i,j,o,mg,ac,bc)) (setG st g) ⟨⟨g,rfl⟩,.inr ⟨o,i,j,mg,ac,bc,rfl,h1,h2,h3,h4⟩⟩
   have hY:=fun g o i j mg ac bc h1 h2 h3 h4=>hQ2 (.yield (none,i,j,o,mg,ac,bc)) (setG st g) ⟨⟨g,rfl⟩,o,i,j,mg,ac,bc,rfl,h1,h2,h3,h4⟩
   clear hQ2
   iterate 11 (extract_lets +onlyGivenNames -underBinder -merge zz;subst zz)
   walk_at "c"
   k_dat (jp,hjp) "b"
   have key:∀ u mg,wpS (model prog w) A E s (jp u mg) Q2 (setG st g):=by
    intro u mg
    rw [hjp]
    clear hjp jp
    refine aP ?_
    show wpS _ _ _ _ (zF mg) _ _
    rw [rM]
    refine lU ?_
    show wpS _ _ _ _ _ _ (setG st mg)
    obtain ⟨t1,q1,e1⟩:=eb (nb-1) tb_g%
    refine aP (dI e1 ?_)
    refine aP (kE (st:=setG st mg) hk (fun i h1 h2=>?_) tb_g% (fun i j h1 h2 h3=>?_) fun k hk1 hk2 hk3=>?_)
    ·exact ea i tb_g%
    ·simp only [bey,uz,if_false,xT,decide_eq_false_iff_not,jH] at h3 ⊢
     exact iG (sa _ _ (cB _) tb_g% tb_g%) h3
    simp only [bey,uz,if_false,xT,Vl,decide_eq_true_eq,decide_eq_false_iff_not,jH,uo] at hk2 hk3
    walk_at "c"
    walk_at "g"
    walk_at "c"
    k_dat (jp2,Eb) "b"
    have key2:∀ u out na',Hi a b out na' nb->0<na'->na'<=na->(∀ j,j<na'->j<a.size->K a j<=K b (nb-1))->wpS (model prog w) A E s (jp2 u na' out) Q2 (setG st mg):=by
     intro u out na' hl ba' hle hge
     rw [Eb]
     clear Eb jp2
     dsimp (config:={ zeta:=false }) only
     walk_at "d"
     walk_at "c"
     refine aP (dI e1 ?_)
     walk_at "d"
     walk_at "c"
     have hl':=hl.b' tb_g% e1 hge
     by_cases c1:nb-1=1
     ·k_dat (cH,c1) "f"
      exact aZ (hM mg _ _ (O6 _ _ _ hl' c1))
     k_dat (cA,c1) "f"
     obtain ⟨t2,q2,e2⟩:=ea (na'-1) tb_g%
     refine aP (dI e2 ?_)
     refine aP (kE (st:=setG st mg) hk (fun i h1 h2=>?_) tb_g% (fun i j h1 h2 h3=>?_) fun k hk1 hk2 hk3=>?_)
     ·exact eb i tb_g%
     ·simp only [bey,if_true,decide_eq_true_eq] at h3 ⊢
      exact Vb (sb _ _ (cB _) tb_g% tb_g%) h3
     simp only [bey,if_true,decide_eq_true_eq,decide_eq_false_iff_not,jH,uo] at hk2 hk3
     walk_at "c"
     walk_at "g"
     walk_at "c"
     k_dat (jp3,XS) "b"
     have aeV:∀ u out nb',Hi a b out na' nb'->1<nb'->nb'+1<=nb->(∀ j,j<nb'->j<b.size->K b j<=K a (na'-1))->wpS (model prog w) A E s (jp3 u nb' out) Q2 (setG st mg):=by
      intro u out nb' hl bb' hle' hge'
      rw [XS]
      clear XS jp3
      dsimp (config:={ zeta:=false }) only
      walk_at "d"
      walk_at "c"
      refine aP (dI e2 ?_)
      walk_at "d"
      walk_at "c"
      have hl':=hl.a' ba' e2 hge'
      by_cases c1:na'-1=0
      ·k_dat (cH,c1) "f"
       exact aZ (hM mg _ _ (uK _ _ _ hl' (.inl c1)))
      k_dat (cA,c1) "f"
      split
      ·exact aZ (hN mg _ _ _ _ _ _ hl' tb_g% tb_g% tb_g%)
      ·exact aZ (hY mg _ _ _ _ _ _ hl' tb_g% tb_g% tb_g%)
     clear XS
     by_cases hk0:nb-1-k>0
     ·refine cH hk0 ?_
      walk_at "g"
      walk_at "c"
      have hl2:=hl'.bs (k:=k) tb_g% fun i j h1 h2 h3 h4 h5 =>
       iG (sa j (na'-1) (cB _) tb_g% tb_g%) (hk3 i h1 h2)
      by_cases c2:k=1
      ·k_dat (cH,c2) "f"
       exact aZ (hM mg _ _ (O6 _ _ _ hl2 c2))
      k_dat (cA,c2) "f"
      by_cases c3:k=0
      ·k_dat (cH,c3) "f"
       exact aZ (hM mg _ _ (uK _ _ _ hl2 (.inr c3)))
      k_dat (cA,c3) "f"
      exact aeV _ _ _ hl2 tb_g% tb_g% fun j h1 h2=>oW (hk2 j h1)
     ·refine cA hk0 ?_
      exact aeV _ _ _ hl' tb_g% tb_g% fun j h1 h2=>oW (hk2 j tb_g%)
    clear Eb
    by_cases hk0:na-k>0
    ·refine cH hk0 ?_
     walk_at "g"
     walk_at "c"
     have hl2:=hl.as (k:=k) hk1 fun i j h1 h2 h3 h4 h5 =>
      iG (sb j (nb-1) (cB _) tb_g% tb_g%) (oW (hk3 i h1 h2))
     by_cases c2:k=0
     ·k_dat (cH,c2) "f"
      exact aZ (hM mg _ _ (uK _ _ _ hl2 (.inl c2)))
     k_dat (cA,c2) "f"
     exact key2 _ _ _ hl2 tb_g% hk1 fun j h1 h2=>hk2 j h1
    ·refine cA hk0 ?_
     exact key2 _ _ _ hl tb_g% tb_g% fun j h1 h2=>hk2 j tb_g%
   clear hjp
   split
   ·walk_at "d"
    walk_at "c"
    exact key _ _
   ·exact key _ _
  ·rintro c st' ⟨_,out,na,nb,mg,ac,bc,rfl,hl,ba,bb,hp'⟩
   lia
  rintro c st' ⟨⟨g,rfl⟩,(⟨r,c',rfl,hm⟩ | ⟨out2,na2,nb2,mg2,ac,bc,rfl,hl2,ba2,bb2,hp2⟩)⟩
  ·walk_at "h"
   walk_at "c"
   walk_at "c"
   exact aZ (hQ0 _ _ ⟨⟨g,rfl⟩,r,_,rfl,hm⟩)
  walk_at "h"
  walk_at "c"
  walk_at "c"
  walk_at "d"
  walk_at "c"
  refine aP ?_
  show wpS _ _ _ _ (zF _) _ _
  rw [rM]
  refine lU (aZ (hQ0 _ _ ⟨⟨_,rfl⟩,_,_,_,_,rfl,hl2,ba2,bb2,by lia⟩))
 ·rintro c st' ⟨_,out,na,nb,mg,rfl,hl,ba,bb,hp⟩
  lia
 ·rintro c st' ⟨⟨g,rfl⟩,r,c',rfl,hm⟩
  walk_at "d"
  walk_at "c"
  walk_at "c"
  exact aZ (h _ _ hm)
end
theorem Zq:∀ (l:List Keyed) (n p:Nat) (arr:Array Keyed),p+n+l.length<=arr.size ->
  ((l.zipIdx n).foldl (fun a (x:Keyed × Nat)=>a.setIfInBounds (p+x.2) x.1) arr).size=arr.size/\∀ i,((l.zipIdx n).foldl (fun a (x:Keyed × Nat)=>a.setIfInBounds (p+x.2) x.1) arr)[i]? = if p+n<=i/\i<p+n+l.length then l[i-(p+n)]? else arr[i]?
 | [],n,p,arr,h=>⟨rfl,fun i=>by rw [if_neg (by simp only [ace];lia)];rfl⟩
 | x::l,n,p,arr,h=>by
  rw [iY] at h
  have ih:=Zq l (n+1) p (arr.setIfInBounds (p+n) x) (by rw [acM];lia)
  rw [List.zipIdx_cons,List.foldl_cons]
  refine ⟨ih.1.trans acM,fun i=>?_⟩
  rw [ih.2 i,iY]
  by_cases h1:p+(n+1)<=i/\i<p+(n+1)+l.length
  ·rw [if_pos h1,if_pos tb_g%,show i-(p+n)=(i-(p+(n+1)))+1 by lia,Tz]
  ·rw [if_neg h1]
   by_cases h2:i=p+n
   ·subst h2
    rw [if_pos tb_g%,Uw,List.getElem?_cons_zero,Array.getElem?_setIfInBounds_self,if_pos tb_g%]
   ·rw [if_neg tb_g%,Array.getElem?_setIfInBounds_ne tb_g%]
structure Put (arr R:Array Keyed) (p r:Nat) (m:List Keyed):Prop where
 size:R.size=arr.size
 at_:∀ i,R[i]? = if p<=i/\i<r then m[i-p]? else arr[i]?
theorem Put.list {arr R:Array Keyed} {p r:Nat} {m:List Keyed} (h:Put arr R p r m) (hr:r<=arr.size) (hm:p+m.length=r):R.toList=arr.toList.take p++(m++arr.toList.drop r):=by
 have hl:arr.toList.length=arr.size:=fU
 apply List.ext_getElem?
 intro i
 rw [iD,h.at_ i]
 by_cases h1:i<p
 ·rw [if_neg tb_g%,FN (by rw [gJ];lia),List.getElem?_take,if_pos h1,iD]
 ·rw [yL (by rw [gJ];lia),gJ,show min p arr.toList.length=p by lia]
  by_cases h2:i<r
  ·rw [if_pos tb_g%,FN tb_g%]
  ·rw [if_neg tb_g%,yL tb_g%,List.getElem?_drop,show r+(i-p-m.length)=i by lia,iD]
theorem Kq {arr:Array Keyed} {p q i:Nat} (hq:q<=arr.size) (hi:p+i<q):K (arr.extract p q) i=K arr (p+i):=by
 unfold K
 rw [Array.getElem?_extract,if_pos tb_g%]
theorem HB {arr:Array Keyed} {p q:Nat} (h:IntKeys arr):IntKeys (arr.extract p q):=fun x hx=>h x (by
 rw [Bo,JL] at hx
 exact FZ (abZ hx))
section
variable {prog:aN} {w:World} {A:bC} {E:Value->Shared->Prop} {s:Shared} [Rl prog w A E s]
theorem agK {σ:Type} {M:Model} {x:σ} {Q:PUnit->σ->Prop} {st:σ} (h:Q ⟨⟩ x):wpS M A E s (set x:StateT σ Sem PUnit) Q st:=by
 unfold wpS;rw [StateT.run_set];exact bH ⟨rfl,h⟩
noncomputable abbrev ju (p:Array (Nat × Nat × Nat)) (i:Nat) (x:Nat × Nat × Nat):Array (Nat × Nat × Nat):=(p.setIfInBounds i x).eraseIdxIfInBounds (i+1)
theorem Q7 {i sa na nb pw pw':Nat} {st:SortSt} {Q:Bool->SortSt->Prop} (hk:kindOf st=kd0) (hf:lV st=none) (h0:IntKeys (arrOf st))
  (e1:(dU st)[i]? = some (sa,na,pw)) (e2:(dU st)[i+1]? = some (sa+na,nb,pw')) (hna:1<=na) (hnb:1<=nb) (hz:sa+na+nb<=(arrOf st).size)
  (S1:Srt (arrOf st) sa (sa+na)) (S2:Srt (arrOf st) (sa+na) (sa+na+nb))
  (h:∀ ys g,Within (arrOf st) ys sa (sa+na+nb)->Srt ys sa (sa+na+nb)->Q true (rA (kindOf st) ys (ju (dU st) i (sa,na+nb,pw)) g none)) :
  wpS (model prog w) A E s (mergeAt' i) Q st:=by
 refine aP (pW ?_)
 rw [e1,e2]
 walk_at "c"
 refine aP (agK ?_)
 have ea:∀ i,i<(arrOf st).size->∃ (t:Keyed) (_:Is t (K (arrOf st) i)),(arrOf st)[i]? = some t:=fun i hi=>yj h0 hi
 have h':∀ ys g,Within (arrOf st) ys sa (sa+na+nb)->Srt ys sa (sa+na+nb)->Q true (rA (kindOf st) ys (ju (dU st) i (sa,na+nb,pw)) g (lV st)):=fun ys g a b=>by rw [hf];exact h ys g a b
 clear h
 show wpS _ _ _ _ _ _ (rA (kindOf st) (arrOf st) (ju (dU st) i (sa,na+nb,pw)) (ux st) (lV st))
 generalize hst:rA (kindOf st) (arrOf st) (ju (dU st) i (sa,na+nb,pw)) (ux st) (lV st)=st1
 have hk1:kindOf st1=kd0:=by rw [<- hst];exact hk
 have h1:∀ ys g,Within (arrOf st) ys sa (sa+na+nb)->Srt ys sa (sa+na+nb)->Q true (fu (setG st1 g) ys):=fun ys g a b=>by rw [<- hst];exact h' ys g a b
 have h2:Srt (arrOf st) sa (sa+na+nb)->Q true st1:=fun b=>by rw [<- hst];exact h' _ _ (Within.refl _ _ _) b
 have ha1:arrOf st1=arrOf st:=by rw [<- hst]
 have hf1:lV st1=none:=by rw [<- hst];exact hf
 clear h' hst
 obtain ⟨t1,q1,k1⟩:=ea (sa+na) tb_g%
 refine aP (dI k1 ?_)
 refine aP (kE hk1 (fun i h1 h2=>ea i tb_g%) tb_g% (fun i j h1 h2 h3=>?_) fun k hk1' hk2 hk3=>?_)
 ·simp only [bey,uz,if_false,xT,decide_eq_false_iff_not,jH] at h3 ⊢
  exact iG (S1 _ _ tb_g% tb_g% tb_g%) h3
 simp only [bey,uz,if_false,xT,Vl,decide_eq_true_eq,decide_eq_false_iff_not,jH] at hk2 hk3
 walk_at "c"
 by_cases c1:na-k=0
 ·k_dat (cH,c1) "f"
  refine aZ (h2 fun i j g1 g2 g3=>?_)
  by_cases a1:j<sa+na
  ·exact S1 i j g1 g2 a1
  ·by_cases a2:sa+na<=i
   ·exact S2 i j a2 g2 g3
   ·have:=hk2 (i-sa) tb_g%
    rw [show sa+(i-sa)=i by lia] at this
    exact iG this (S2 _ j (bV _) tb_g% g3)
 k_dat (cA,c1) "f"
 have kq:sa+k+(na-k)-1=sa+na-1:=by lia
 rw [kq]
 obtain ⟨t2,q2,k2⟩:=ea (sa+na-1) tb_g%
 refine aP (dI k2 ?_)
 refine aP (kE hk1 (fun i h1 h2=>ea i tb_g%) tb_g% (fun i j h1 h2 h3=>?_) fun m hm1 hm2 hm3=>?_)
 ·simp only [bey,if_true,decide_eq_true_eq] at h3 ⊢
  exact Vb (S2 _ _ tb_g% tb_g% tb_g%) h3
 simp only [bey,if_true,decide_eq_true_eq,decide_eq_false_iff_not,jH] at hm2 hm3
 walk_at "c"
 by_cases c2:m=0
 ·k_dat (cH,c2) "f"
  refine aZ (h2 fun i j g1 g2 g3=>?_)
  by_cases a1:j<sa+na
  ·exact S1 i j g1 g2 a1
  ·by_cases a2:sa+na<=i
   ·exact S2 i j a2 g2 g3
   ·have:=hm3 (j-(sa+na)) tb_g% tb_g%
    rw [show sa+na+(j-(sa+na))=j by lia] at this
    exact iG (S1 i (sa+na-1) g1 tb_g% tb_g%) this
 k_dat (cA,c2) "f"
 k_dat (x,hx) "b"
 k_dat (y,hy) "b"
 k_dat (jp,hjp) "b"
 have xs:x.size=na-k:=by rw [hx,acP];show min (sa+na) (arrOf st).size-(sa+k)=_;lia
 have ys:y.size=m:=by rw [hy,acP];show min (sa+na+m) (arrOf st).size-(sa+na)=_;lia
 have Kx:∀ i,i<x.size->K x i=K (arrOf st) (sa+k+i):=fun i hi=>by rw [hx];exact Kq (arr:=arrOf st) tb_g% tb_g%
 have Ky:∀ i,i<y.size->K y i=K (arrOf st) (sa+na+i):=fun i hi=>by rw [hy];exact Kq (arr:=arrOf st) tb_g% tb_g%
 have key:∀ (out:Array Keyed) g,gB x.toList y.toList out.toList->wpS (model prog w) A E s (jp out) Q (setG st1 g):=by
  intro out g hm
  rw [hjp]
  refine aP (lU ?_)
  refine aP (pW (aZ ?_))
  show Q (lV st1).isNone (fu (setG st1 g) (Ui (fun a (x:Keyed × Nat)=>a.setIfInBounds (sa+k+x.2) x.1) (arrOf st1) out.toList.zipIdx))
  rw [hf1,ha1]
  have ol:out.toList.length=na-k+m:=by rw [hm.perm.length_eq,dh,fU,fU,xs,ys]
  have hP:Put (arrOf st) (Ui (fun a (x:Keyed × Nat)=>a.setIfInBounds (sa+k+x.2) x.1) (arrOf st) out.toList.zipIdx) (sa+k) (sa+na+m) out.toList:=by
   have:=Zq out.toList 0 (sa+k) (arrOf st) tb_g%
   rw [Bm,ol,show sa+k+(na-k+m)=sa+na+m by lia] at this
   exact ⟨this.1,this.2⟩
  generalize Ui (fun a (x:Keyed × Nat)=>a.setIfInBounds (sa+k+x.2) x.1) (arrOf st) out.toList.zipIdx=R at hP ⊢
  have mid:∀ i,sa+k<=i->i<sa+na+m->∃ j,sa+k<=j/\j<sa+na+m/\K R i=K (arrOf st) j:=fun i g1 g2=>by
   have e:R[i]? = out.toList[i-(sa+k)]?:=by rw [hP.at_ i,if_pos ⟨g1,g2⟩]
   have hi:i-(sa+k)<out.toList.length:=by lia
   rw [gR hi] at e
   have mem:out.toList[i-(sa+k)]∈x.toList++y.toList:=hm.perm.mem_iff.mp (wZ hi)
   have e':=vC e
   rw [<- e']
   rcases dg.mp mem with z | z
   ·rw [hx] at z
    obtain ⟨j,j1,j2,j3,j4⟩:=vB z
    exact ⟨j,j1,by lia,j4⟩
   ·rw [hy] at z
    obtain ⟨j,j1,j2,j3,j4⟩:=vB z
    exact ⟨j,by lia,j2,j4⟩
  have aav:∀ i,(i<sa+k\/sa+na+m<=i)->K R i=K (arrOf st) i:=fun i hi=>K_congr (by rw [hP.at_ i,if_neg tb_g%])
  have lowK:∀ i,sa<=i->i<sa+k->K (arrOf st) i<=K (arrOf st) (sa+na):=fun i g1 g2=>by
   have:=hk2 (i-sa) tb_g%
   rw [show sa+(i-sa)=i by lia] at this
   exact this
  have highK:∀ j,sa+na+m<=j->j<sa+na+nb->K (arrOf st) (sa+na-1)<=K (arrOf st) j:=fun j g1 g2=>by
   have:=hm3 (j-(sa+na)) tb_g% tb_g%
   rw [show sa+na+(j-(sa+na))=j by lia] at this
   exact this
  refine h1 R g ⟨M9.mpr ?_,fun i hi=>?_⟩ fun i j g1 g2 g3=>?_
  ·rw [hP.list tb_g% tb_g%]
   have e:(arrOf st).toList=(arrOf st).toList.take (sa+k)++((x.toList++y.toList)++(arrOf st).toList.drop (sa+na+m)):=by
    have d1:=zB (a:=arrOf st) (i:=sa+k) (k:=na-k)
    have d2:=zB (a:=arrOf st) (i:=sa+na) (k:=m)
    rw [show sa+k+(na-k)=sa+na by lia] at d1
    rw [d2] at d1
    conv=>lhs;rw [<- FT (sa+k) (arrOf st).toList,d1]
    rw [iW,hx,hy]
   conv=>rhs;rw [e]
   exact Gx _ (adG _ hm.perm)
  ·rw [hP.at_ i,if_neg tb_g%]
  ·by_cases a1:i<sa+k
   ·rw [aav i (.inl a1)]
    by_cases b1:j<sa+k
    ·rw [aav j (.inl b1)];exact S1 i j g1 g2 tb_g%
    ·by_cases b2:j<sa+na+m
     ·obtain ⟨j',j1,j2,j3⟩:=mid j tb_g% b2
      rw [j3]
      by_cases b3:j'<sa+na
      ·exact S1 i j' g1 tb_g% b3
      ·exact iG (lowK i g1 a1) (S2 _ j' (bV _) tb_g% tb_g%)
     ·rw [aav j (.inr tb_g%)]
      exact iG (lowK i g1 a1) (S2 _ j (bV _) tb_g% g3)
   ·by_cases a2:i<sa+na+m
    ·by_cases b2:j<sa+na+m
     ·have f:∀ i,sa+k<=i->i<sa+na+m->∃ hi:i-(sa+k)<out.toList.length,K R i=kv out.toList[i-(sa+k)]:=fun i g1 g2=>by
       have hi:i-(sa+k)<out.toList.length:=by lia
       have e:R[i]? = some out.toList[i-(sa+k)]:=by rw [hP.at_ i,if_pos ⟨g1,g2⟩,gR hi]
       exact ⟨hi,(vC e).symm⟩
      obtain ⟨hi,ei⟩:=f i tb_g% a2
      obtain ⟨hj,ej⟩:=f j tb_g% b2
      rw [ei,ej]
      by_cases e:i=j
      ·subst e;exact cP _
      ·exact JM.mp hm.srt _ _ hi hj tb_g%
     ·obtain ⟨i',i1,i2,i3⟩:=mid i tb_g% a2
      rw [i3,aav j (.inr tb_g%)]
      by_cases b3:i'<sa+na
      ·exact iG (S1 i' (sa+na-1) tb_g% tb_g% tb_g%) (highK j tb_g% g3)
      ·exact S2 i' j tb_g% tb_g% g3
    ·rw [aav i (.inr tb_g%),aav j (.inr tb_g%)]
     exact S2 i j tb_g% g2 g3
 have A1:IntKeys x:=by rw [hx];exact HB h0
 have A2:IntKeys y:=by rw [hy];exact HB h0
 have A3:Srt x 0 x.size:=fun i j g1 g2 g3=>by rw [Kx i tb_g%,Kx j g3];exact S1 _ _ tb_g% tb_g% tb_g%
 have A4:Srt y 0 y.size:=fun i j g1 g2 g3=>by rw [Ky i tb_g%,Ky j g3];exact S2 _ _ tb_g% tb_g% tb_g%
 have A5:∀ i,i<x.size->K y 0<=K x i:=fun i hi=>by
  rw [Kx i hi,Ky 0 tb_g%,Bm]
  have:=hk3 (k+i) tb_g% tb_g%
  rw [<- Gp] at this
  exact oW this
 have A6:∀ j,j<y.size->K y j<=K x (x.size-1):=fun j hj=>by
  rw [Ky j hj,Kx _ tb_g%,show sa+k+(x.size-1)=sa+na-1 by lia]
  exact oW (hm2 j tb_g%)
 clear hjp
 split
 ·exact aP (agI hk1 A1 A2 A3 A4 tb_g% tb_g% A5 A6 fun out g hm=>key out g hm)
 ·exact aP (agJ hk1 A1 A2 A3 A4 tb_g% tb_g% A5 A6 fun out g hm=>key out g hm)
end
noncomputable def Runs (arr:Array Keyed):Nat->List (Nat × Nat × Nat)->Nat->Prop
 | p,[],q=>p=q
 | p,x::r,q=>x.1=p/\1<=x.2.1/\Srt arr p (p+x.2.1)/\Runs arr (p+x.2.1) r q
theorem Runs.le {arr:Array Keyed}:∀ {l:List (Nat × Nat × Nat)} {p q:Nat},Runs arr p l q->p+l.length<=q
 | [],p,q,h=>by rw [show p=q from h];exact bV _
 | x::r,p,q,h=>by have:=Runs.le h.2.2.2;have:=h.2.1;rw [iY];lia
theorem Runs.app {arr:Array Keyed}:∀ {l r:List (Nat × Nat × Nat)} {p q:Nat},Runs arr p (l++r) q↔∃ m,Runs arr p l m/\Runs arr m r q
 | [],r,p,q=>⟨fun h=>⟨p,rfl,h⟩,fun ⟨m,h1,h2⟩=>by rw [show p=m from h1];exact h2⟩
 | x::l,r,p,q=>by
  constructor
  ·rintro ⟨h1,h2,h3,h4⟩
   obtain ⟨m,m1,m2⟩:=Runs.app.mp h4
   exact ⟨m,⟨h1,h2,h3,m1⟩,m2⟩
  ·rintro ⟨m,⟨h1,h2,h3,m1⟩,m2⟩
   exact ⟨h1,h2,h3,Runs.app.mpr ⟨m,m1,m2⟩⟩
theorem Srt.out {xs ys:Array Keyed} {a b c d:Nat} (h:Srt xs c d) (w:Within xs ys a b) (hc:d<=a\/b<=c):Srt ys c d:=fun i j h1 h2 h3=>by
 rw [K_congr (w.out i tb_g%),K_congr (w.out j tb_g%)];exact h i j h1 h2 h3
theorem Runs.out {xs ys:Array Keyed} {a b:Nat} (w:Within xs ys a b):∀ {l:List (Nat × Nat × Nat)} {p q:Nat},Runs xs p l q->(q<=a\/b<=p)->Runs ys p l q
 | [],p,q,h,_=>h
 | x::r,p,q,h,hc=>by
  have:=Runs.le h.2.2.2
  exact ⟨h.1,h.2.1,Srt.out h.2.2.1 w tb_g%,Runs.out w h.2.2.2 tb_g%⟩
theorem Runs.alike {arr:Array Keyed}:∀ {l l':List (Nat × Nat × Nat)} {p q:Nat},l.map (fun x=>(x.1,x.2.1))=l'.map (fun x=>(x.1,x.2.1))->Runs arr p l q->Runs arr p l' q
 | [],[],p,q,_,h=>h
 | [],_::_,p,q,e,h=>by simp at e
 | _::_,[],p,q,e,h=>by simp at e
 | x::r,y::r',p,q,e,h=>by
  rw [f9,f9] at e
  obtain ⟨e1,e2⟩:=ajC e
  obtain ⟨e3,e4⟩:=Prod.mk.inj e1
  refine ⟨by rw [<- e3];exact h.1,by rw [<- e4];exact h.2.1,by rw [<- e4];exact h.2.2.1,?_⟩
  rw [<- e4];exact Runs.alike e2 h.2.2.2
structure yp (a₀:Array Keyed) (st:SortSt) (lo:Nat):Prop where
 perm:(arrOf st).Perm a₀
 kind:kindOf st=kd0
 failed:lV st=none
 runs:Runs (arrOf st) 0 (dU st).toList lo
 le:lo<=a₀.size
theorem X3 (p:Array (Nat × Nat × Nat)) (i pw:Nat):p.toList.map (fun x=>(x.1,x.2.1))=(p.modify i fun x=>(x.1,x.2.1,pw)).toList.map (fun x=>(x.1,x.2.1)):=by
 apply List.ext_getElem?
 intro j
 rw [iB,iB,iD,iD,Array.getElem?_modify]
 by_cases h:i=j
 ·rw [if_pos h,Vs];rfl
 ·rw [if_neg h]
section
variable {prog:aN} {w:World} {A:bC} {E:Value->Shared->Prop} {s:Shared} [Rl prog w A E s]
theorem zG {a₀:Array Keyed} {i lo:Nat} {st:SortSt} {Q:Bool->SortSt->Prop} (h0:IntKeys a₀) (hI:yp a₀ st lo) (hi:i+1<(dU st).size)
  (h:∀ st',yp a₀ st' lo->(dU st').size+1=(dU st).size->Within (arrOf st) (arrOf st') 0 lo->Q true st'):wpS (model prog w) A E s (mergeAt' i) Q st:=by
 have hl:(dU st).toList.length=(dU st).size:=fU
 obtain ⟨L,x1,x2,R,eL,lL⟩:∃ L x1 x2 R,(dU st).toList=L++x1::x2::R/\L.length=i:=by
  refine ⟨(dU st).toList.take i,(dU st).toList[i],(dU st).toList[i+1],(dU st).toList.drop (i+2),?_,by rw [gJ];lia⟩
  conv=>lhs;rw [<- FT i (dU st).toList,JK tb_g%,JK tb_g%]
 have hr:=hI.runs
 rw [eL] at hr
 obtain ⟨m,r1,r2⟩:=Runs.app.mp hr
 obtain ⟨sa,na,pw⟩:=x1
 obtain ⟨sb,nb,pw'⟩:=x2
 obtain ⟨e1,n1,s1,e2,n2,s2,r3⟩:=r2
 simp only at e1 n1 s1 e2 n2 s2 r3
 subst e1
 subst e2
 have le3:=r3.le
 have sz:=hI.perm.size_eq
 have hle:=hI.le
 refine Q7 (sa:=sa) (na:=na) (nb:=nb) (pw:=pw) (pw':=pw') hI.kind hI.failed (vA h0 hI.perm) ?_ ?_ n1 n2 tb_g% s1 s2 fun ys g hw hs=>?_
 ·rw [<- iD,eL,yL tb_g%,lL,Uw];rfl
 ·rw [<- iD,eL,yL tb_g%,lL,show i+1-i=1 by lia];rfl
 have eN:(ju (dU st) i (sa,na+nb,pw)).toList=L++(sa,na+nb,pw)::R:=by
  show ((Array.setIfInBounds _ _ _).eraseIdxIfInBounds (i+1)).toList=_
  rw [Array.toList_eraseIdxIfInBounds,Array.toList_setIfInBounds,eL,<- lL]
  simp [List.eraseIdx_append]
  intro hh;lia
 refine h _ ⟨hw.perm.trans hI.perm,hI.kind,rfl,?_,hI.le⟩ ?_ (hw.wide (cB _) tb_g%)
 ·show Runs ys 0 (ju (dU st) i (sa,na+nb,pw)).toList lo
  rw [eN]
  refine Runs.app.mpr ⟨sa,r1.out hw (.inl (bV _)),rfl,by show 1<=na+nb;lia,?_,?_⟩
  ·show Srt ys sa (sa+(na+nb))
   rw [<- Gp];exact hs
  ·show Runs ys (sa+(na+nb)) R lo
   rw [<- Gp];exact r3.out hw (.inr (bV _))
 ·show (ju (dU st) i (sa,na+nb,pw)).size+1=_
  have z1:=congrArg jG eN
  have z2:=congrArg jG eL
  simp only [fU,dh,iY] at z1 z2
  lia
theorem wg {a₀:Array Keyed} {st:SortSt} {Q:Unit->SortSt->Prop} (h0:IntKeys a₀) (hB:SBase a₀ st) (h2:2<=a₀.size)
  (h:∀ st',(arrOf st').Perm a₀->lV st'=none->SortedTo (arrOf st') a₀.size->Q () st'):wpS (model prog w) A E s sortRuns' Q st:=by
 rw [sortRuns'_eq]
 refine aP (pW ?_)
 k_dat (size,hsize) "b"
 k_dat (minrun,hmin) "b"
 clear hmin
 have hsz:size=a₀.size:=hsize.trans hB.size
 clear hsize
 subst hsz
 k_dat (lo0,hlo0) "b"
 subst hlo0
 have hI0:yp a₀ st 0:=⟨hB.perm,hB.kind,hB.failed,by rw [hB.pend];rfl,cB _⟩
 refine aP (gn (jX (a:=0) (I:=fun x c st'=>∃ lo,c=(none,lo)/\yp a₀ st' lo/\x<=lo) (Q:=fun c st'=>c=(none,a₀.size)/\yp a₀ st' a₀.size) ?_ ?_ ⟨0,rfl,hI0,bV _⟩) ?_)
 ·rintro x c st' _ hx ⟨lo,rfl,hI,hxl⟩
  walk_at "d"
  walk_at "c"
  by_cases c1:lo>=a₀.size
  ·refine cH c1 ?_
   have:lo=a₀.size:=by have:=hI.le;lia
   subst this
   exact aZ ⟨rfl,hI⟩
  refine cA c1 ?_
  have sz:=hI.perm.size_eq
  refine aP (agH hI.kind (vA h0 hI.perm) tb_g% tb_g% fun n ys n1 n2 _ hw hs=>?_)
  walk_at "c"
  walk_at "d"
  walk_at "c"
  k_dat (jp,hjp) "b"
  have key:∀ u n zs,Within (arrOf st') zs lo a₀.size->Srt zs lo (lo+n)->1<=n->lo+n<=a₀.size->wpS (model prog w) A E s (jp u n) (fun r st'=>match r with
    | ForInStep.done c'=>c'=(none,a₀.size)/\yp a₀ st' a₀.size
    | ForInStep.yield c'=>∃ lo,c'=(none,lo)/\yp a₀ st' lo/\x+1<=lo) (fu st' zs):=by
   intro u n zs hw hs n1 n2
   rw [hjp]
   clear hjp jp
   have hI1:yp a₀ (fu st' zs) lo:=⟨hw.perm.trans hI.perm,hI.kind,hI.failed,hI.runs.out hw (.inl (bV _)),hI.le⟩
   have hs1:Srt (arrOf (fu st' zs)) lo (lo+n):=hs
   generalize fu st' zs=st1 at hI1 hs1 ⊢
   refine aP (pW ?_)
   k_dat (jp2,Eb) "b"
   have key2:∀ u st2,yp a₀ st2 lo->Srt (arrOf st2) lo (lo+n)->wpS (model prog w) A E s (jp2 u) (fun r st'=>match r with
    | ForInStep.done c'=>c'=(none,a₀.size)/\yp a₀ st' a₀.size
    | ForInStep.yield c'=>∃ lo,c'=(none,lo)/\yp a₀ st' lo/\x+1<=lo) st2:=by
    intro u st2 hI2 hs2
    rw [Eb]
    refine aP (lU ?_)
    walk_at "d"
    walk_at "c"
    refine aZ ⟨lo+n,rfl,⟨hI2.perm,hI2.kind,hI2.failed,?_,n2⟩,by lia⟩
    show Runs (arrOf st2) 0 ((dU st2).push (lo,n,0)).toList (lo+n)
    rw [uq]
    exact Runs.app.mpr ⟨lo,hI2.runs,rfl,n1,hs2,rfl⟩
   clear Eb
   split
   ·walk_at "d"
    walk_at "c"
    rename_i s1 n1' sn _
    generalize power' a₀.size (2*s1+n1') (2*s1+n1'+n1'+n) a₀.size=pw
    refine aP (gn (jX (a:=0) (I:=fun _ c st2=>c=(none,())/\yp a₀ st2 lo/\Srt (arrOf st2) lo (lo+n)) (Q:=fun c st2=>c=(none,())/\yp a₀ st2 lo/\Srt (arrOf st2) lo (lo+n)) ?_ (fun _ _ hh=>hh) ⟨rfl,hI1,hs1⟩) ?_)
    ·rintro y c st2 _ hy ⟨rfl,hI2,hs2⟩
     refine aP (pW ?_)
     walk_at "d"
     walk_at "c"
     by_cases c2:(dU st2).size>1
     ·rw [if_pos c2]
      have e:(dU st2)[(dU st2).size-2]? = some ((dU st2)[(dU st2).size-2]'tb_g%):=getElem?_pos _ _ _
      rw [e]
      generalize (dU st2)[(dU st2).size-2]'tb_g%=z
      obtain ⟨z1,z2,older⟩:=z
      walk_at "c"
      by_cases c3:older<=pw
      ·refine cH c3 ?_
       exact aZ ⟨rfl,hI2,hs2⟩
      refine cA c3 ?_
      refine aP (zG h0 hI2 tb_g% fun st3 hI3 _ hw3=>?_)
      refine cA (by decide) ?_
      exact aZ ⟨rfl,hI3,Srt.out hs2 hw3 (.inr (bV _))⟩
     ·rw [if_neg c2]
      exact aZ ⟨rfl,hI2,hs2⟩
    ·rintro c st2 ⟨rfl,hI2,hs2⟩
     walk_at "d"
     walk_at "c"
     walk_at "c"
     refine aP (lU ?_)
     refine gn (key2 _ _ ⟨hI2.perm,hI2.kind,hI2.failed,?_,hI2.le⟩ hs2) fun r st' hh=>by cases r <;> exact hh
     exact hI2.runs.alike (X3 _ _ _)
   ·exact gn (key2 _ _ hI1 hs1) fun r st' hh=>by cases r <;> exact hh
  clear hjp
  rw [show lo+(a₀.size-lo)=a₀.size by lia] at hw
  by_cases c2:n<minrun
  ·refine cH c2 ?_
   refine aP (xO (jY ⟨rfl,?_⟩))
   walk_at "d"
   walk_at "c"
   have zz:ys.size=a₀.size:=(hw.perm.size_eq).trans sz
   refine aP (aeQ (st:=fu st' ys) hI.kind (vA h0 (hw.perm.trans hI.perm)) (by show _<=ys.size;lia) tb_g% hs fun zs hw2 hs2=>?_)
   refine cA (by decide) ?_
   walk_at "d"
   walk_at "c"
   have hw3:Within (arrOf st') zs lo a₀.size:=hw.trans (hw2.wide (bV _) tb_g%)
   exact gn (key _ _ zs hw3 hs2 tb_g% tb_g%) fun r st' hh=>by cases r <;> exact hh
  ·refine cA c2 ?_
   exact gn (key _ _ ys hw hs n1 tb_g%) fun r st' hh=>by cases r <;> exact hh
 ·rintro c st' ⟨lo,rfl,hI,hxl⟩
  have:lo=a₀.size:=by have:=hI.le;lia
  subst this
  exact ⟨rfl,hI⟩
 ·rintro c st' ⟨rfl,hI⟩
  walk_at "g"
  walk_at "c"
  walk_at "c"
  have p0:(dU st').size<=a₀.size:=by
   have:=hI.runs.le
   rw [fU] at this
   lia
  refine aP (gn (jX (a:=0) (I:=fun x c st2=>c=(none,())/\yp a₀ st2 a₀.size/\x+(dU st2).size<=a₀.size+1) (Q:=fun c st2=>c=(none,())/\yp a₀ st2 a₀.size/\(dU st2).size<=1) ?_ ?_ ⟨rfl,hI,by lia⟩) ?_)
  ·rintro x c st2 _ hx ⟨rfl,hI2,hp⟩
   refine aP (pW ?_)
   walk_at "d"
   walk_at "c"
   by_cases c2:(dU st2).size<=1
   ·refine cH c2 ?_
    exact aZ ⟨rfl,hI2,c2⟩
   refine cA c2 ?_
   k_dat (i0,hi0) "b"
   k_dat (before,hbefore) "b"
   clear hbefore
   k_dat (i1,hi1) "b"
   have:i1+1<(dU st2).size:=by
    rw [hi1]
    split <;> lia
   refine aP (zG h0 hI2 this fun st3 hI3 hs3 _=>?_)
   refine cA (by decide) ?_
   exact aZ ⟨rfl,hI3,by lia⟩
  ·rintro c st2 ⟨rfl,hI2,hp⟩
   exact ⟨rfl,hI2,by lia⟩
  ·rintro c st2 ⟨rfl,hI2,hp⟩
   walk_at "d"
   walk_at "c"
   walk_at "c"
   refine aZ (h _ hI2.perm hI2.failed ?_)
   have hr:=hI2.runs
   have hl:(dU st2).toList.length=(dU st2).size:=fU
   match e:(dU st2).toList,hr with
   | [],hr=>have:0=a₀.size:=hr;lia
   | [x],⟨x1,x2,x3,x4⟩ =>
    have x5:0+x.2.1=a₀.size:=x4
    rw [x5] at x3
    exact fun i j g1 g2=>x3 i j (cB _) g1 g2
   | _::_::_,_=>rw [e] at hl;simp at hl;lia
end
end
section
variable {prog:aN} {w:World} {A:bC} {E:Value->Shared->Prop} {s:Shared}
theorem K_at [Rk] {xs:Array Keyed} {i:Nat} (hi:i<xs.size):K xs i=Rk.R xs[i]:=by unfold K;rw [getElem?_pos xs i hi]
theorem aeW [Rk] {vs:List Value} {xs:Array Keyed} (hp:xs.Perm (jt vs)) (hs:SortedTo xs (jt vs).size) :
  (xs.map (·.2)).toList.Perm vs/\(xs.map (·.2)).toList.Pairwise fun x y=>Rk.R (x,x)<=Rk.R (y,y):=by
 have hl:xs.toList.Perm (vs.zip vs):=by rw [<- UW];exact M9.mp hp
 have hm:∀ p,p∈xs.toList->p.1=p.2:=fun p h=>(U6 (hl.mem_iff.mp h)).1
 rw [Array.toList_map]
 constructor
 ·have h1:=hl.map adI
  rwa [ab9 (bV _)] at h1
 ·refine Ga.mpr (JM.mpr fun i j hi hj hij=>?_)
  have hi':i<xs.size:=by simpa using hi
  have hj':j<xs.size:=by simpa using hj
  have h1:=hs i j (mH hij) (by rw [<- hp.size_eq];exact hj')
  rw [K_at hi',K_at hj'] at h1
  have e:∀ p:Keyed,p∈xs.toList->((p.2,p.2):Keyed)=p:=fun p h=>pZ (hm p h).symm rfl
  rw [e _ (wZ hi),e _ (wZ hj)]
  simpa using h1
theorem agL [Rk] {a:Addr} {vs:List Value} {n:Nat} {P:Fin->Shared->Prop} (at_:s.heap.get? a=some (cM "list" vs.toArray n)) (few:vs.length<=sizeLine) (hok:∀ v∈vs,Rk.Ok (v,v))
  (hkey:2<=vs.length->∀ (s2:Shared) (Q:SortKind->Shared->Prop),(∀ b o,b≠a->s.heap.get? b=some o->s2.heap.get? b=some o)->Q Rk.kd s2->wpAny (model prog w) A (keyKind' vs.toArray) Q E s2)
  (hlt:∀ s2:Shared,(∀ b o,b≠a->s.heap.get? b=some o->s2.heap.get? b=some o)->Rl prog w A E s2)
  (told:∀ out:Array Value,out.toList.Perm vs->(out.toList.Pairwise fun x y=>Rk.R (x,x)<=Rk.R (y,y))->P (.done (.ret .none)) { s with heap:=Gu s.heap a vs out }) :
  wpAny (model prog w) A (gh.«list.sort» ⟨[.ref a],[]⟩) P E s:=by
 have la:=bR at_
 have len:vs.toArray.size=vs.length:=dY
 obtain ⟨ep,at1⟩:∃ ep,(s.heap.update a (gU fun _=>#[])).get? a=some (cM "list" #[] ep):=⟨_,acY at_ (fun _=>#[])⟩
 have keep:∀ b o,b≠a->s.heap.get? b=some o->(((s.heap.update a (gU fun _=>#[])).push (cM "tuple" vs.toArray 0)).push (cM "list" #[] 0)).get? b=some o:=fun b o hb e =>
  dR _ (dR _ (by rw [Heap.get?_update_ne _ _ _ _ hb];exact e))
 have at2:(((s.heap.update a (gU fun _=>#[])).push (cM "tuple" vs.toArray 0)).push (cM "list" #[] 0)).get? a=some (cM "list" #[] ep):=dR _ (dR _ at1)
 rw [list_sort_plain]
 apply aG;apply ac1 at_ rfl
 apply aG;refine Bs at_ rfl ?_ (by rw [len];exact few) (cB _)
 apply aG;apply Bt at1 rfl
 apply aG;refine SN ?_ (by simpa using few)
 apply aG;refine Aw ?_ (cB _)
 apply jR
 show wpAny (model prog w) A _ P E { s with heap:=((s.heap.update a (gU fun _=>#[])).push (cM "tuple" vs.toArray 0)).push (cM "list" #[] 0) }
 dsimp only
 have close:∀ st:SortSt,(arrOf st).Perm (jt vs)->SortedTo (arrOf st) (jt vs).size->P (.done (.ret .none)) { s with heap:=Gu s.heap a vs ((arrOf st).map (·.2)) }:=fun st p so=>by
  obtain ⟨i1,i2⟩:=aeW p so
  exact told _ i1 i2
 by_cases two:vs.toArray.size<2
 ·simp only [if_pos two]
  apply aG;apply bH;rw [adX];apply aG;apply bH;dsimp only
  apply aG;apply Bt at2 rfl
  apply aG;refine Bs at2 rfl ?_ (cB _) (by rw [Nb];show (jt vs).size<=_;rw [ur];lia)
  simp only [bne_self_eq_false,uz,if_false]
  refine bH (close (rA general' (vs.toArray.zip vs.toArray) #[] 7 none) (Vw _) fun i j ij hj=>?_)
  rw [ur] at hj
  rw [show i=j by lia];exact cP _
 ·simp only [if_neg two]
  refine aG (hkey tb_g% _ _ keep ?_)
  haveI:=hlt { s with heap:=((s.heap.update a (gU fun _=>#[])).push (cM "tuple" vs.toArray 0)).push (cM "list" #[] 0) } keep
  have go:=wg (prog:=prog) (w:=w) (A:=A) (E:=E) (s:={ s with heap:=((s.heap.update a (gU fun _=>#[])).push (cM "tuple" vs.toArray 0)).push (cM "list" #[] 0) })
   (a₀:=jt vs) (st:=rA Rk.kd (vs.toArray.zip vs.toArray) #[] 7 none) (Q:=fun _ st=>(arrOf st).Perm (jt vs)/\lV st=none/\SortedTo (arrOf st) (jt vs).size)
   (fun x hx=>by
    rw [UW] at hx
    obtain ⟨e1,e2⟩:=U6 hx
    obtain ⟨x1,x2⟩:=x
    cases e1
    exact hok _ e2) ⟨Vw _,rfl,rfl,rfl⟩ (by rw [ur];lia) fun st p1 p2 p3=>⟨p1,p2,p3⟩
  refine aG (fO go ?_ fun _ _ e=>e)
  rintro ⟨⟨⟩,st⟩ s2 ⟨rfl,p1,p2,p3⟩
  dsimp only
  apply aG;apply Bt at2 rfl
  apply aG;refine Bs at2 rfl ?_ (cB _) (by rw [Nb,p1.size_eq,ur];lia)
  rw [p2];simp only [bne_self_eq_false,uz,if_false]
  exact bH (close st p1 p3)
noncomputable def Q8:Rk:=⟨oneType',fun p=>numOf p.1,fun p=>∃ n t,p.1 = .int n t⟩
theorem ahU:@Rl Q8 prog w A E s:=@Rl.mk Q8 prog w A E s fun {x y st Q} hk hx hy h=>by
 obtain ⟨⟨n,t,e1⟩,⟨m,u,e2⟩⟩:=And.intro hx hy
 obtain ⟨x1,x2⟩:=x
 obtain ⟨y1,y2⟩:=y
 cases e1
 cases e2
 rw [lt'_eq]
 refine aP (pW ?_)
 rw [show kindOf st=oneType' from hk,keyLt'_oneType]
 refine aP (xO (Ft (oneLt_int ⟨rfl,?_⟩)))
 exact aZ h
theorem HD {a:Addr} {vs:List Value} {ns:List Int} {n:Nat} {P:Fin->Shared->Prop} (at_:s.heap.get? a=some (cM "list" vs.toArray n)) (hI:IntsAre vs ns) (few:vs.length<=sizeLine)
  (told:∀ (out:Array Value) (ns':List Int),IntsAre out.toList ns'->ns'.Perm ns->ns'.Pairwise (fun x y=>x<=y)->P (.done (.ret .none)) { s with heap:=Gu s.heap a vs out }) :
  wpAny (model prog w) A (gh.«list.sort» ⟨[.ref a],[]⟩) P E s:=by
 refine @agL prog w A E s Q8 a vs n P at_ few (fun v hv=>hI.all v hv) (fun h2 s2 Q _ q=>?_) (fun _ _=>ahU) fun out p so=>?_
 ·match vs,hI,h2 with
  | v::v'::r,hI,_=>rw [ac2 hI];exact bH q
  | [],_,z=>simp at z
  | [_],_,z=>simp at z
 ·have h1:=intsAre_map out.toList fun v hv=>hI.all v (p.mem_iff.mp hv)
  refine told out _ h1 ?_ (Ga.mpr so)
  have:=p.map numOf
  rwa [hI.nums] at this
end
end Tm
namespace L2
open PySem PySem.Spec PyProof.Rows
section
variable {X:Cx}
theorem Q9 {A:bC} {E:Value->Shared->Prop} {s:Shared} {T:String} {r d:Addr} {n:Nat} {P:Nat->Value->Prop} {OK:Heap->Prop} {ns:List Int} {Q:Value->Shared->Prop}
  (K:acB X.prog X.w T r d n P OK) (hh:A.handled=none) (hok:OK s.heap) (hn:n<=sizeLine) (hP:∀ us:List Value,us.length=n->(∀ (j:Nat) (v:Value),us[j]? = some v->P j v)->IntsAre us ns)
  (h:∀ (h':Heap) (tk:Nat) (l:Addr) (out:Array Value) (ns':List Int) (e:Nat),(∀ b ob,s.heap.get? b=some ob->h'.get? b=some ob)->(∀ b ob,s.heap.get? b=some ob->b≠l)->h'.get? l=some (cM "list" out e) ->
   IntsAre out.toList ns'->ns'.Perm ns->ns'.Pairwise (· <= ·)->Q (.ref l) { s with heap:=h',toks:=tk }) :
  wpAny (model X.prog X.w) A (call (.builtin "sorted") [.ref r]) Q E s:=by
 apply Vo Nr Nm Np (U7 _);unfold gh.«sorted»
 apply aG (m:=Lz "sorted" 1 1 _);apply bH
 apply aG;refine acr (A:=A.in1) K hh hok hn fun h1 tk acc hk hacc=>?_
 have hl:acc.toList.length=n:=fU.trans hacc.1
 have hI:=hP acc.toList hl fun j v e=>hacc.2 j v (by rw [<- iD];exact e)
 apply aG;refine Aw ?_ (hl ▸ hn)
 have hoL:(h1.push (cM "list" acc.toList.toArray 0)).get? h1.objs.size=some (cM "list" acc.toList.toArray 0):=eE _ rfl
 apply aG;refine jR (vV Ni ⟨_,hoL,rfl⟩ Nh (Tm.HD hoL hI (hl ▸ hn) fun out ns' a1 a2 a3=>⟨_,rfl,?_⟩) (U0 _))
 refine bH ⟨_,rfl,?_⟩
 obtain ⟨e,he⟩:=U5 (vs:=acc.toList) (out:=out) hoL
 have hb:∀ b ob,s.heap.get? b=some ob->b<h1.objs.size:=fun b ob e'=>bR (hk b ob e')
 refine h _ tk _ out ns' e (fun b ob e'=>?_) (fun b ob e'=>cO (hb b ob e')) he a1 a2 a3
 have hlt:=hb b ob e'
 rw [U3 (cO hlt) (by rw [Bu];exact um hlt)];exact dR _ (hk b ob e')
theorem O7 {A:bC} {E:Value->Shared->Prop} {s:Shared} {l:Addr} {vs:List Value} {ns:List Int} {Q:Value->Shared->Prop} (hl:s.heap.IsList l vs.toArray) (hI:IntsAre vs ns) (few:vs.length<=sizeLine)
  (h:∀ (out:Array Value) (ns':List Int),IntsAre out.toList ns'->ns'.Perm ns->ns'.Pairwise (· <= ·)->Q (.ref (s.heap.objs.size+1)) { s with heap:=sortedAll s.heap vs out }) :
  wpAny (model X.prog X.w) A (call (.builtin "sorted") [.ref l]) Q E s:=by
 apply Vo Nr Nm Np (U7 _);unfold gh.«sorted»
 apply aG (m:=Lz "sorted" 1 1 _);apply bH
 apply aG;refine collect_list hl ?_ few
 apply aG;refine Aw ?_ few
 have z:((s.heap.push (cM "list" #[] 0)).update s.heap.objs.size (gU (· ++ vs.toArray))).objs.size=s.heap.objs.size+1:=(Uj _ _ _).trans (Bu _ _)
 show wpAny _ _ _ _ _ { s with heap:=((s.heap.push (cM "list" #[] 0)).update s.heap.objs.size (gU (· ++ vs.toArray))).push (cM "list" vs.toArray 0) }
 have at_:(((s.heap.push (cM "list" #[] 0)).update s.heap.objs.size (gU (· ++ vs.toArray))).push (cM "list" vs.toArray 0)).get? (s.heap.objs.size+1)=some (cM "list" vs.toArray 0):=z ▸ eE _ rfl
 rw [z]
 apply aG;refine jR (vV Ni ⟨_,at_,rfl⟩ Nh (Tm.HD at_ hI few fun out ns' a1 a2 a3=>⟨_,rfl,bH ⟨_,rfl,h out ns' a1 a2 a3⟩⟩) (U0 _))
noncomputable def Zr:List V->Hp->VK->Prop:=fun xs H Q=>∃ a kvs ns,xs=[V.ref a]/\Rd H a (.dK kvs)/\(kvs.map fun p=>kV p.1)=ns.map V.int/\ns.length<1000 /\
 ∀ (l:Addr) (ns':List Int),H l=none->ns'.Perm ns->ns'.Pairwise (· <= ·)->Q (.ref l) (upd H l (.lst (ns'.map V.int)))
noncomputable def Zt (K:bh):List V->Hp->VK->Prop:=fun xs H Q=>∃ a ns,xs=[V.ref a]/\SqL K H a (ns.map V.int)/\ns.length<1000 /\
 ∀ (l:Addr) (ns':List Int),H l=none->ns'.Perm ns->ns'.Pairwise (· <= ·)->Q (.ref l) (upd H l (.lst (ns'.map V.int)))
theorem Ra (hc:X.calm=true):jD X (.builtin "sorted") Zr:=by
 intro pins s σ H xs us Q I r h
 obtain ⟨a,kvs,ns,rfl,ha,ei,_,q⟩:=h
 obtain ⟨u,rfl,ru⟩:=vals1 r
 cases ru
 obtain ⟨z,hd,vs,rel,dd⟩:=sZ I.hok ha
 obtain ⟨ep,hat⟩:=dd.dictAt
 have hl:=rel.length
 have hns:ns.length=kvs.length:=by have:=congrArg jG ei;simpa using this.symm
 refine Q9 (X:=X) (ns:=ns) (acy (knd:=cT X.prog X.w) (kvs:=vs) (ep:=ep) hd) (I.ok.hd hc) hat (by rw [<- hl];exact z) (fun us hu hv=>?_) fun h' tk l' out ns' e' kp hne hl' hI hp ho=>?_
 ·have vv:=Cm rel hu hv
  rw [ei] at vv
  exact intsAre_of vv
 ·refine ⟨.ref l',_,I.Ho (t':=tk) kp hne (show eG X.prog X.w _ h' l' (.lst (ns'.map V.int)) from ⟨?_,out.toList,e',mV hI,by simpa using hl'⟩),rfl,q l' ns' (I.none_of hne) hp ho⟩
  rw [bA,hp.length_eq,hns];exact z
theorem Rb:jD X (.builtin "sorted") (Zt X.K):=by
 intro pins s σ H xs us Q I r h
 obtain ⟨a,ns,rfl,ha,_,q⟩:=h
 obtain ⟨u,rfl,ru⟩:=vals1 r
 cases ru
 obtain ⟨its,rv,p,hz⟩:=I.list ha
 have hI:=intsAre_of rv
 have hl:its.length=ns.length:=by rw [<- rv.length,bA]
 rw [bA] at hz
 refine O7 p.isList hI (hl ▸ hz) fun out ns' a1 a2 a3=>?_
 obtain ⟨e,he⟩:=sortedAll_at s.heap its out
 refine ⟨.ref (s.heap.objs.size+1),_,I.laid (t':=s.toks) (fun _ _=>sortedAll_old) (m9 _) (show eG X.prog X.w _ _ (s.heap.objs.size+1) (.lst (ns'.map V.int)) from ⟨?_,out.toList,e,mV a1,by simpa using he⟩),rfl,q _ ns' (I.hok.fresh (m9 _)) a2 a3⟩
 rw [bA,a2.length_eq];exact hz
noncomputable def agM (K:bh):List V->Hp->VK->Prop:=fun xs H Q=>Zr xs H Q\/Zt K xs H Q
theorem jM (hc:X.calm=true):jD X (.builtin "sorted") (agM X.K):=(Ra hc).or Rb
end
end L2
namespace Tm
open PySem PyProof.Rows
section
variable {prog:aN} {w:World} {A:bC} {E:Value->Shared->Prop} {s:Shared}
theorem O8 {a:Addr} {vs:List Value} {ns:List Int} {n:Nat} {P:Fin->Shared->Prop} (at_:s.heap.get? a=some (cM "list" vs.toArray n)) (hI:IntsAre vs ns) (few:vs.length<=sizeLine)
  (told:∀ (out:Array Value) (ns':List Int),IntsAre out.toList ns'->ns'.Perm ns->ns'.Pairwise (fun x y=>x>=y)->P (.done (.ret .none)) { s with heap:=Gu s.heap a vs out }) :
  wpAny (model prog w) A (gh.«list.sort» ⟨[.ref a],[(rm "reverse",.bool true)]⟩) P E s:=by
 letI:=Q8
 have la:=bR at_
 have len:vs.toArray.size=vs.length:=dY
 obtain ⟨ep,at1⟩:∃ ep,(s.heap.update a (gU fun _=>#[])).get? a=some (cM "list" #[] ep):=⟨_,acY at_ (fun _=>#[])⟩
 have at2:(((s.heap.update a (gU fun _=>#[])).push (cM "tuple" vs.toArray 0)).push (cM "list" #[] 0)).get? a=some (cM "list" #[] ep):=by
  rw [acp,acp]
  ·exact at1
  ·rw [Uj];exact cO la
  ·rw [Bu,Uj];exact cO (um la)
 have start:((vs.toArray.zip vs.toArray).reverse).Perm (jt vs):=M9.mpr (by rw [Bq];exact ab7 _)
 rw [list_sort_rev]
 apply aG;apply ac1 at_ rfl
 apply aG;refine Bs at_ rfl ?_ (by rw [len];exact few) (cB _)
 apply aG;apply Bt at1 rfl
 apply aG;refine SN ?_ (by simpa using few)
 apply aG;refine Aw ?_ (cB _)
 apply jR
 show wpAny (model prog w) A _ P E { s with heap:=((s.heap.update a (gU fun _=>#[])).push (cM "tuple" vs.toArray 0)).push (cM "list" #[] 0) }
 dsimp only
 have close:∀ st:SortSt,(arrOf st).Perm (jt vs)->SortedTo (arrOf st) (jt vs).size->P (.done (.ret .none)) { s with heap:=Gu s.heap a vs ((arrOf st).map (·.2)).reverse }:=fun st p so=>by
  obtain ⟨p1,so1⟩:=aeW p so
  have h1:=intsAre_map ((arrOf st).map (·.2)).toList fun v hv=>hI.all v (p1.mem_iff.mp hv)
  have h2:(((arrOf st).map (·.2)).toList.map numOf).Perm ns:=by
   have:=p1.map numOf
   rwa [hI.nums] at this
  refine told _ (((arrOf st).map (·.2)).toList.map numOf).reverse ?_ ((ab7 _).trans h2) ?_
  ·rw [Bq];exact h1.reverse
  ·refine abX.mpr (Ga.mpr ?_)
   exact so1
 simp only [if_true]
 apply aG;apply jY
 by_cases two:vs.toArray.size<2
 ·simp only [if_pos two]
  apply aG;apply bH;rw [adX];apply aG;apply bH;dsimp only
  apply aG;apply Bt at2 rfl
  apply aG;refine Bs at2 rfl ?_ (cB _) (by rw [UG,Nb,UG];show (jt vs).size<=_;rw [ur];lia)
  simp only [bne_self_eq_false,uz,if_false]
  refine bH (close (rA general' (vs.toArray.zip vs.toArray).reverse #[] 7 none) start fun i j ij hj=>?_)
  rw [ur] at hj
  rw [show i=j by lia];exact cP _
 ·simp only [if_neg two]
  have kk:keyKind' vs.toArray=pure oneType':=by
   match vs,hI,two with
   | v::v'::r,hI,_=>exact ac2 hI
   | [],_,z=>simp at z
   | [_],_,z=>simp at z
  rw [kk]
  apply aG;apply bH
  haveI:@Rl Q8 prog w A E _:=@ahU prog w A E { s with heap:=((s.heap.update a (gU fun _=>#[])).push (cM "tuple" vs.toArray 0)).push (cM "list" #[] 0) }
  have go:=wg (prog:=prog) (w:=w) (A:=A) (E:=E) (s:={ s with heap:=((s.heap.update a (gU fun _=>#[])).push (cM "tuple" vs.toArray 0)).push (cM "list" #[] 0) })
   (a₀:=jt vs) (st:=rA oneType' (vs.toArray.zip vs.toArray).reverse #[] 7 none) (Q:=fun _ st=>(arrOf st).Perm (jt vs)/\lV st=none/\SortedTo (arrOf st) (jt vs).size)
   (fun x hx=>by
    rw [UW] at hx
    obtain ⟨e1,e2⟩:=U6 hx
    obtain ⟨x1,x2⟩:=x
    cases e1
    exact hI.all _ e2) ⟨start,rfl,rfl,rfl⟩ (by rw [ur];lia) fun st p1 p2 p3=>⟨p1,p2,p3⟩
  refine aG (fO go ?_ fun _ _ e=>e)
  rintro ⟨⟨⟩,st⟩ s2 ⟨rfl,p1,p2,p3⟩
  dsimp only
  apply aG;apply Bt at2 rfl
  apply aG;refine Bs at2 rfl ?_ (cB _) (by rw [UG,Nb,p1.size_eq,ur];lia)
  rw [p2];simp only [bne_self_eq_false,uz,if_false]
  exact bH (close st p1 p3)
end
end Tm
namespace L2
open PySem PySem.Spec PyProof.Rows
section
variable {X:Cx}
theorem O9 {A:bC} {E:Value->Shared->Prop} {s:Shared} {T:String} {r d:Addr} {n:Nat} {P:Nat->Value->Prop} {OK:Heap->Prop} {ns:List Int} {Q:Value->Shared->Prop}
  (K:acB X.prog X.w T r d n P OK) (hh:A.handled=none) (hok:OK s.heap) (hn:n<=sizeLine) (hP:∀ us:List Value,us.length=n->(∀ (j:Nat) (v:Value),us[j]? = some v->P j v)->IntsAre us ns)
  (h:∀ (h':Heap) (tk:Nat) (l:Addr) (out:Array Value) (ns':List Int) (e:Nat),(∀ b ob,s.heap.get? b=some ob->h'.get? b=some ob)->(∀ b ob,s.heap.get? b=some ob->b≠l)->h'.get? l=some (cM "list" out e) ->
   IntsAre out.toList ns'->ns'.Perm ns->ns'.Pairwise (· >= ·)->Q (.ref l) { s with heap:=h',toks:=tk }) :
  wpAny (model X.prog X.w) A (call (.builtin "sorted") [.ref r] [(rm "reverse",.bool true)]) Q E s:=by
 apply call_function_entry_kw Nr Nm Np (args_sorted_rev _ _);unfold gh.«sorted»
 apply aG (m:=Lz "sorted" 1 1 _);apply bH
 apply aG;refine acr (A:=A.in1) K hh hok hn fun h1 tk acc hk hacc=>?_
 have hl:acc.toList.length=n:=fU.trans hacc.1
 have hI:=hP acc.toList hl fun j v e=>hacc.2 j v (by rw [<- iD];exact e)
 apply aG;refine Aw ?_ (hl ▸ hn)
 have hoL:(h1.push (cM "list" acc.toList.toArray 0)).get? h1.objs.size=some (cM "list" acc.toList.toArray 0):=eE _ rfl
 apply aG;refine jR (wpAny_call_entry_kw Ni ⟨_,hoL,rfl⟩ Nh (Tm.O8 hoL hI (hl ▸ hn) fun out ns' a1 a2 a3=>⟨_,rfl,?_⟩) (args_list_sort_rev _ _))
 refine bH ⟨_,rfl,?_⟩
 obtain ⟨e,he⟩:=U5 (vs:=acc.toList) (out:=out) hoL
 have hb:∀ b ob,s.heap.get? b=some ob->b<h1.objs.size:=fun b ob e'=>bR (hk b ob e')
 refine h _ tk _ out ns' e (fun b ob e'=>?_) (fun b ob e'=>cO (hb b ob e')) he a1 a2 a3
 have hlt:=hb b ob e'
 rw [U3 (cO hlt) (by rw [Bu];exact um hlt)];exact dR _ (hk b ob e')
end
section
variable {X:Cx} {l:Expr} {td:TE} {p kp cpos apos pos:Pos} {j:Nat} {bpos:Pos}
noncomputable def agN (td:TE):TE:=fun σ H Q=>td σ H fun x H1=>∃ a kvs ns,x = .ref a/\Rd H1 a (.dK kvs)/\kvs.map (·.2)=ns.map V.int/\ns.length<1000 /\
 ∀ (l:Addr) (ns':List Int),H1 l=none->ns'.Perm ns->ns'.Pairwise (· >= ·)->Q (.ref l) (upd H1 l (.lst (ns'.map V.int)))
theorem aaw (hm0:X.mg "sorted" = none) (hl:PE X l td) (m:MI X l "values" apos cpos) (hc:X.calm=true) (hg:Gl X "sorted" := by rfl) :
  PE X (.Call (.Name "sorted" p) [.Call (.Attribute l "values" apos) [] [] cpos] [⟨some "reverse",.Constant (.bool true) j bpos,kp⟩] pos) (agN td):=by
 walk_at "k"
 refine tQ (nA I hg hm0 boot_sorted ?_)
 refine U8 (uE (Ld (T := "dict") (id := "dict.values") m.base rfl m.line NP Nz adw (thn (hl pins s σ H _ I h) fun v s1 ⟨x,H1,I1,r1,q1⟩=>?_)))
 obtain ⟨a,kvs,ns,rfl,e,ei,_,q⟩:=q1
 obtain rfl:v=Value.ref a:=r1
 obtain ⟨t1,t2,hS⟩:=Ow I1 (.inl ⟨kvs,e⟩)
 refine ⟨t1,t2,?_⟩
 obtain ⟨z,_,vs,rel,dd⟩:=sZ I1.hok e
 obtain ⟨ep,dm⟩:=dd.dictAt
 have hlen:=rel.length
 have hns:ns.length=kvs.length:=by have:=congrArg jG ei;simpa using this.symm
 refine SM Nz adu rfl (La ⟨rfl,t1,adt _,_,abt (cT X.prog X.w) a hS,⟨vs,dd⟩,?_⟩)
 refine xV (Va ?_)
 refine acZ (kws_nil ?_)
 show wpAny _ _ (call (.builtin "sorted") [.ref s1.heap.objs.size] [(rm "reverse",.bool true)]) _ _ _
 have I2:=I1.kept (h':=s1.heap.push { cls:=.type "dict_values",data:=.fields #[.ref a] }) (t':=s1.toks) fun b ob e=>dR _ e
 refine O9 (X:=X) (ns:=ns) (acu (knd:=cT X.prog X.w) (kvs:=vs) (ep:=ep)) (I1.ok.hd hc) ⟨⟨_,eE _ rfl,rfl,rfl⟩,dm.push _⟩ (by rw [<- hlen];exact z) (fun us hu hv=>?_) fun h' tk l' out ns' e' kp hne hl' hI hp ho=>?_
 ·have vv:=Cp rel hu hv
  rw [ei] at vv
  exact intsAre_of vv
 ·refine ⟨.ref l',_,I2.Ho (t':=tk) kp hne (show eG X.prog X.w _ h' l' (.lst (ns'.map V.int)) from ⟨?_,out.toList,e',mV hI,by simpa using hl'⟩),rfl,q l' ns' (I2.none_of hne) hp ho⟩
  rw [bA,hp.length_eq,hns];exact z
end
end L2
namespace Sx
open PySem
noncomputable def Ris (l:List Nat):Prop:=l.Pairwise (· < ·)
theorem HF {xs:Array Nat} {j:Nat} (hr:Ris xs.toList):∀ (f lo hi:Nat),hi-lo<=f->lo<=hi->hi<=xs.size->(∀ (i v:Nat),xs[i]? = some v->i<lo->v<j)->(∀ (i v:Nat),xs[i]? = some v->hi<=i->j<=v) ->
  NQ xs j f lo hi<=xs.size/\(∀ (i v:Nat),xs[i]? = some v->i<NQ xs j f lo hi->v<j)/\∀ (i v:Nat),xs[i]? = some v->NQ xs j f lo hi<=i->j<=v
 | 0,lo,hi,h1,h2,h3,h4,h5=>by
  obtain rfl:hi=lo:=by lia
  exact ⟨h3,h4,h5⟩
 | f+1,lo,hi,h1,h2,h3,h4,h5=>by
  unfold NQ
  by_cases c:lo<hi
  ·rw [if_pos c]
   dsimp only
   have mh:(lo+hi) / 2<xs.size:=by lia
   have em:xs[(lo+hi) / 2]? = some xs[(lo+hi) / 2]:=getElem?_pos xs _ mh
   have eg:xs.getD ((lo+hi) / 2) j=xs[(lo+hi) / 2]:=by rw [Array.getD_eq_getD_getElem?,em];rfl
   have mono:∀ (i k v u:Nat),xs[i]? = some v->xs[k]? = some u->i<=k->v<=u:=fun i k v u e1 e2 h=>by
    rw [<- iD] at e1 e2
    obtain ⟨l1,rfl⟩:=fQ.mp e1
    obtain ⟨l2,rfl⟩:=fQ.mp e2
    rcases jW i k with z | z
    ·exact mH (JM.mp hr i k l1 l2 z)
    ·obtain rfl:i=k:=by lia
     exact bV _
   rw [eg]
   by_cases d:xs[(lo+hi) / 2]<j
   ·rw [if_pos d]
    refine HF hr f _ hi tb_g% tb_g% h3 (fun i v e g=>?_) h5
    have:=mono i _ v _ e em tb_g%
    lia
   ·rw [if_neg d]
    refine HF hr f lo _ tb_g% tb_g% tb_g% h4 fun i v e g=>?_
    have:=mono _ i _ v em e g
    lia
  ·rw [if_neg c]
   obtain rfl:hi=lo:=by lia
   exact ⟨h3,h4,h5⟩
theorem zH {xs:Array Nat} (hr:Ris xs.toList) (j:Nat) :
  jf xs j<=xs.size/\(∀ (i v:Nat),xs[i]? = some v->i<jf xs j->v<j)/\∀ (i v:Nat),xs[i]? = some v->jf xs j<=i->j<=v :=
 HF hr _ 0 _ tb_g% (cB _) (bV _) (fun _ _ _ h=>absurd h (acG _)) fun i v e h=>by
  obtain ⟨l,_⟩:=acL.mp e
  lia
theorem X4 {xs:Array Nat} (hr:Ris xs.toList):jf xs 0=0:=by
 obtain ⟨a,b,c⟩:=zH hr 0
 rcases Gm (jf xs 0) with z | z
 ·exact z
 ·have l:0<xs.size:=by lia
  exact absurd (b 0 _ (getElem?_pos xs 0 l) z) (acG _)
theorem X5 {xs:Array Nat} (hr:Ris xs.toList) {i v:Nat} (e:xs[i]? = some v):jf xs (v+1)=i+1:=by
 obtain ⟨a,b,c⟩:=zH hr (v+1)
 obtain ⟨l,e'⟩:=acL.mp e
 have strict:∀ (k u:Nat),xs[k]? = some u->i<k->v<u:=fun k u e2 h=>by
  have e1:=e
  rw [<- iD] at e1 e2
  obtain ⟨l1,rfl⟩:=fQ.mp e1
  obtain ⟨l2,rfl⟩:=fQ.mp e2
  exact JM.mp hr i k l1 l2 h
 rcases acD (jf xs (v+1)) (i+1) with z | z | z
 ·have:=c i v e tb_g%
  lia
 ·exact z
 ·have l2:i+1<xs.size:=by lia
  have e2:=getElem?_pos xs (i+1) l2
  have:=b (i+1) _ e2 z
  have:=strict (i+1) _ e2 tb_g%
  lia
structure Tk (t:fP) (n:Nat) (ld:Bool):Prop where
 n:t.place.size=n
 r:Ris t.place.toList
 d:t.dummies = #[]
 l:t.led=ld
theorem X6 {t:fP} {n j:Nat} {ld:Bool} (h:Tk t n ld) (e:t.slot j = .empty):j∉t.place.toList:=fun m=>by
 obtain ⟨i,l,q⟩:=wW.mp m
 have e1:t.place[i]? = some j:=by rw [<- iD,gR l,q]
 obtain ⟨a,b,c⟩:=zH h.r j
 have ge:jf t.place j<=i:=acF fun z=>oU _ (b i j e1 z)
 have eq:jf t.place j=i:=by
  rcases jW (jf t.place j) i with z | z
  ·have l3:i<t.place.size:=by simpa using l
   have l2:jf t.place j<t.place.size:=by lia
   have c1:=c _ _ (getElem?_pos t.place _ l2) (bV _)
   have:=JM.mp h.r (jf t.place j) i (by simpa using l2) l z
   rw [q] at this
   have c2:j<=t.place.toList[jf t.place j]'(by simpa using l2):=by simpa using c1
   lia
  ·lia
 unfold adn at e
 dsimp only at e
 rw [eq,e1] at e
 simp at e
theorem Js {t:fP} {n j:Nat} {ld:Bool} (h:Tk t n ld):t.slot j ≠ .dummy:=fun e=>by
 unfold adn at e
 dsimp only at e
 split at e
 ·cases e
 ·rw [h.d] at e
  have hs:Nu #[] j=false:=by unfold Nu;simp
  rw [hs] at e
  simp at e
theorem Rf {t:fP} {n:Nat} {ld:Bool} (h:Tk t n ld) {g:Nat->Int} {hh:Int}:∀ (f:Nat) (p:aiE) (j:Nat) (d:Option Nat),p.dummy=none->adU t g hh f p=some (.empty j d)->d=none/\t.slot j = .empty
 | 0,_,_,_,_,e=>by cases e
 | f+1,p,j,d,hp,e=>by
  unfold adU at e
  have adv:(t.advance p).dummy=none:=by
   unfold aiB
   split
   ·exact hp
   ·exact hp
  cases hs:t.slot p.j with
  | empty =>
   rw [hs] at e
   simp only [Uy,ajo] at e
   obtain ⟨rfl,rfl⟩:=e
   exact ⟨hp,hs⟩
  | dummy=>exact absurd hs (Js h)
  | live i =>
   rw [hs] at e
   dsimp only at e
   split at e
   ·cases e
   ·exact Rf h f _ j d adv e
theorem agO {t:fP} {n:Nat} {ld:Bool} (h:Tk t n ld) {hh:Int} {slot:Nat} {wd:Bool} (e:t.freeSlot hh=some (slot,wd)):slot∉t.place.toList:=by
 unfold aiy at e
 split at e
 ·rename_i j d hq
  obtain ⟨rfl,q⟩:=Rf h _ _ j d (by unfold aiv;rfl) hq
  simp only [Vr,Option.isSome_none,Uy,Vx] at e
  rw [<- e.1]
  exact X6 h q
 ·cases e
theorem agP {xs:Array Nat} (hr:Ris xs.toList) {j:Nat} (nj:j∉xs.toList):Ris (aiz xs (jf xs j) j).toList:=by
 obtain ⟨a,b,c⟩:=zH hr j
 rw [aiu]
 unfold Ris at hr ⊢
 rw [lE]
 have e:xs.toList=xs.toList.take (jf xs j)++xs.toList.drop (jf xs j):=(FT _ _).symm
 have lo:∀ v∈xs.toList.take (jf xs j),v<j:=fun v m=>by
  obtain ⟨i,l,q⟩:=wW.mp m
  rw [gJ] at l
  rw [T9] at q
  exact b i v (by rw [<- iD,gR tb_g%,q]) tb_g%
 have hi:∀ v∈xs.toList.drop (jf xs j),j<v:=fun v m=>by
  have m':v∈xs.toList:=FZ m
  obtain ⟨i,l,q⟩:=wW.mp m
  rw [T8] at q
  rw [wY] at l
  have:=c (jf xs j+i) v (by rw [<- iD,gR tb_g%,q]) tb_g%
  rcases jW j v with z | z
  ·exact z
  ·exact absurd m' (by rw [show v=j by lia];exact nj)
 refine ⟨hr.sublist (T6 _ _),iV.mpr ⟨hi,hr.sublist (List.drop_sublist _ _)⟩,fun v m u m2=>?_⟩
 rcases cU.mp m2 with rfl | m2
 ·exact lo v m
 ·exact acI (lo v m) (hi u m2)
theorem aax (n:Nat):Ris (Array.range n).toList:=by
 unfold Ris
 rw [Array.toList_range]
 exact abU
theorem rN {t:fP} (n:Nat) {ld:Bool} (hl:t.led=ld):Tk (t.standIn n) n ld:=⟨by unfold aiC;simp,aax n,rfl,hl⟩
theorem aay {t:fP} {es:Array (Int × Value)} {ld:Bool} (h:Tk t es.size ld) (hh:Int) (x:Value):Tk (FJ t es hh x).2.1 (es.size+1) ld/\(FJ t es hh x).1.size=es.size+1:=by
 have sz:(FJ t es hh x).1.size=es.size+1:=by
  have:=(layNew_perm t es hh x).length_eq
  simpa using this
 refine ⟨?_,sz⟩
 rw [<- sz]
 unfold FJ
 split
 ·rename_i slot wd e
  dsimp only
  unfold aiw
  split
  ·rename_i hf
   refine ⟨?_,?_,?_,h.l⟩
   ·unfold ado at hf
    simp only [Gw,beq_iff_eq] at hf
    exact hf.1
   ·exact agP h.r (agO h e)
   ·unfold aiG
    dsimp only
    rw [h.d]
    have hs:Nu #[] slot=false:=by unfold Nu;simp
    rw [hs];rfl
  ·exact rN _ h.l
 ·have e:(es.push (hh,x)).size=es.size+1:=Array.size_push ..
  rw [e]
  exact rN _ h.l
theorem aeX (owner:Array (Option Nat)) (m:Nat):Ris (((mZ (m+1)).filterMap fun j=>(owner.getD j none).map (j,·)).map (·.1)):=by
 unfold Ris
 rw [ab4]
 refine ajq _ (R:=(· < ·)) (fun a a' hlt b hb b' hb'=>?_) abU
 cases h1:owner.getD a none with
 | none=>rw [h1] at hb;cases hb
 | some u =>
  cases h2:owner.getD a' none with
  | none=>rw [h2] at hb';cases hb'
  | some u' =>
   rw [h1] at hb
   rw [h2] at hb'
   simp at hb hb'
   lia
theorem aeY {t:fP} {es:Array (Int × Value)} {ld:Bool} (hl:t.led=ld) (wanted:Nat):Tk (tW t es wanted).2.1 es.size ld/\(tW t es wanted).1.size=es.size:=by
 have sz:(tW t es wanted).1.size=es.size:=by
  have:=(abJ t es wanted).length_eq
  simpa using this
 refine ⟨?_,sz⟩
 have hf:=abK t es wanted
 rw [sz] at hf
 unfold tW at hf ⊢
 split
 ·rename_i t' order e
  rw [e] at hf
  dsimp only at hf ⊢
  split
  ·rename_i hc
   rw [if_pos hc] at hf
   dsimp only at hf ⊢
   unfold aiD aiF at e
   cases ow:aiA (aix wanted-1) (es.map (·.1)) with
   | none=>rw [ow] at e;cases e
   | some owner =>
    rw [ow] at e
    simp only [Option.bind_eq_bind,Option.bind_some,Option.pure_def,Uy,Vx] at e
    obtain ⟨rfl,_⟩:=e
    refine ⟨?_,?_,rfl,hl⟩
    ·unfold ado at hf
     simp only [Gw,beq_iff_eq] at hf
     exact hf.1
    ·exact aeX owner _
  ·exact rN _ hl
 ·exact rN _ hl
theorem HJ {α:Type} {l:List α} {i:Nat} (h:i<l.length):(l[i]::l.eraseIdx i).Perm l:=by
 rw [List.eraseIdx_eq_take_drop_succ]
 refine Ub.symm.trans ?_
 rw [List.getElem_cons_drop h,FT]
theorem Zu {α:Type} (next:Nat->Nat):∀ (f k:Nat) (left:List α) (out:Array α),left.length=f->(pickOrder.go next f k left out).toList.Perm (out.toList++left)
 | 0,k,left,out,h=>by
  rw [vX.mp h,xg];exact .rfl
 | f+1,k,left,out,h=>by
  unfold pickOrder.go
  have lt:next k % left.length<left.length:=acK _ tb_g%
  rw [gR lt]
  dsimp only
  have ih:=Zu next f (k+1) (left.eraseIdx (next k % left.length)) (out.push left[next k % left.length]) (by rw [abP lt];lia)
  refine ih.trans ?_
  rw [uq,iW]
  exact Gx _ (HJ lt)
theorem aaz {α:Type} (next:Nat->Nat) (xs:Array α):(LR next xs).toList.Perm xs.toList:=by
 have:=Zu next xs.size 0 xs.toList #[] (by simp)
 simpa [LR] using this
end Sx
set_option autoImplicit false
namespace Sx
open PySem
noncomputable def iv:Value->Int
 | .int n _=>n
 | _=>0
noncomputable def keys (es:Array (Int × Value)):List Int:=es.toList.map fun e=>iv e.2
noncomputable def dd1 (C:List Int) (x:Int):List Int:=if x∈C then C else C++[x]
noncomputable def dd (ns:List Int):List Int:=ns.foldl dd1 []
theorem aeZ {C D:List Int} (x:Int) (h:C.Perm D):(dd1 C x).Perm (dd1 D x):=by
 unfold dd1
 by_cases m:x∈C
 ·rw [if_pos m,if_pos (h.mem_iff.mp m)];exact h
 ·rw [if_neg m,if_neg (fun z=>m (h.mem_iff.mpr z))];exact h.append_right _
theorem agQ {ns:List Int} {i:Nat} {x:Int} (e:ns[i]? = some x):dd (ns.take (i+1))=dd1 (dd (ns.take i)) x:=by
 unfold dd
 rw [vY,e,ab6];rfl
theorem Zv {C:List Int} {x z:Int}:z∈dd1 C x↔z∈C\/z=x:=by
 unfold dd1
 split
 ·rename_i h
  exact ⟨.inl,fun q=>q.elim id fun e=>e ▸ h⟩
 ·rw [dg,d8]
theorem Kr {C:List Int} {x:Int} (h:C.Nodup):(dd1 C x).Nodup:=by
 unfold dd1
 split
 ·exact h
 ·rename_i n
  refine T7.mpr ⟨h,jT.mpr ⟨jd,ud⟩,fun a m b m2 e=>?_⟩
  rw [d8] at m2
  exact n (by rw [<- m2,<- e];exact m)
theorem X7 (ns:List Int):∀ C:List Int,C.Nodup->(ns.foldl dd1 C).Nodup/\(∀ z,z∈ns.foldl dd1 C↔z∈C\/z∈ns)/\(ns.foldl dd1 C).length<=C.length+ns.length:=by
 induction ns with
 | nil=>exact fun C h=>⟨h,fun z=>by simp,by simp⟩
 | cons x r ih =>
  intro C h
  obtain ⟨a,b,c⟩:=ih (dd1 C x) (Kr h)
  refine ⟨a,fun z=>?_,?_⟩
  ·show z∈r.foldl dd1 (dd1 C x)↔_
   rw [b z,Zv,cU]
   constructor
   ·rintro ((q | q) | q)
    ·exact .inl q
    ·exact .inr (.inl q)
    ·exact .inr (.inr q)
   ·rintro (q | q | q)
    ·exact .inl (.inl q)
    ·exact .inl (.inr q)
    ·exact .inr q
  ·show (r.foldl dd1 (dd1 C x)).length<=_
   have:(dd1 C x).length<=C.length+1:=by unfold dd1;split <;> simp
   rw [iY];lia
theorem Rg (ns:List Int):(dd ns).Nodup:=(X7 ns [] ud).1
theorem ae0 {ns:List Int} {z:Int}:z∈dd ns↔z∈ns:=by
 rw [show dd ns=ns.foldl dd1 [] from rfl,(X7 ns [] ud).2.1 z];simp
theorem ae1 (ns:List Int):(dd ns).length<=ns.length:=by have:=(X7 ns [] ud).2.2;simpa [dd] using this
section
variable {prog:aN} {w:World} {A:bC} {E:Value->Shared->Prop} {s:Shared}
structure fj (prog:aN) (w:World) (h:Heap) (a:Addr) (es:Array (Int × Value)) (ep:Nat) (t:fP) (ld:Bool):Prop where
 o:h.get? a=some { cls:=.type "set",dict:=none,data:=.set es ep t,slots:=#[] }
 el:Mq (iw prog w) es.toList
 tk:Tk t es.size ld
 few:es.size<scanBound
 ft:t.fits es.size=true
theorem fj.keep {h h':Heap} {a:Addr} {es:Array (Int × Value)} {ep:Nat} {t:fP} {ld:Bool} (x:fj prog w h a es ep t ld) (k:∀ o,h.get? a=some o->h'.get? a=some o):fj prog w h' a es ep t ld:=⟨k _ x.o,x.el,x.tk,x.few,x.ft⟩
theorem fj.ty {a:Addr} {es:Array (Int × Value)} {ep:Nat} {t:fP} {ld:Bool} (x:fj prog w s.heap a es ep t ld):s.TypeIs (.ref a) "set" := ⟨_,x.o,rfl⟩
theorem ahV {k:Int} {v:Value} (h:(iw prog w).is k v=true) (hs:v.scannable=true):iv v=k:=by
 have h:BP k v=true:=h
 cases v <;> simp_all [BP,iv,Value.scannable]
theorem ajX {es:List (Int × Value)} (h:Mq (iw prog w) es) {e:Int × Value} (m:e∈es):(iw prog w).is (iv e.2) e.2=true:=by
 obtain ⟨⟨k,hk,_⟩,hs⟩:=h e m
 rw [ahV hk hs];exact hk
theorem ae2 {h:Heap} {a:Addr} {es:Array (Int × Value)} {ep:Nat} {t:fP} (o:h.get? a=some { cls:=.type "set",dict:=none,data:=.set es ep t,slots:=#[] }) (es':Array (Int × Value)) (t':fP) :
  (h.update a (Nv es' t')).get? a=some { cls:=.type "set",dict:=none,data:=.set es' (ep+1) t',slots:=#[] }:=by
 have:=yO (Nv es' t') o (by rw [putSet_of es' t' rfl];rfl)
 rw [putSet_of es' t' rfl] at this;exact this
theorem ajY {a:Addr} {es:Array (Int × Value)} {ep:Nat} {t:fP} {ld:Bool} {n:Int} {k:Tok} {Q:Bool->Shared->Prop} (x:fj prog w s.heap a es ep t ld) (room:es.size+1<scanBound)
  (q:∀ (h':Heap) (es':Array (Int × Value)) (ep':Nat) (t':fP) (b:Bool),uf a s.heap h'->fj prog w h' a es' ep' t' ld->(keys es').Perm (dd1 (keys es) n)->Q b { s with heap:=h' }) :
  wpAny (model prog w) A (abM a (.int n k) ((iw prog w).hash n)) Q E s:=by
 have key:(iw prog w).is n (.int n k)=true:=decide_eq_true rfl
 unfold abM Li
 refine jR (aG (Ao x.o rfl x.ft ?_));dsimp only
 rw [byScan_of rfl x.few x.el,if_pos rfl]
 unfold setAddByScan
 refine aG (aG (jY (aG (wpAny_setScan_of key x.o rfl x.ft x.el ?_))))
 cases hr:List.findIdx? (fun e=>(iw prog w).is n e.2) es.toList with
 | some j =>
  dsimp only
  obtain ⟨hj,hp,_⟩:=List.findIdx?_eq_some_iff_getElem.mp hr
  have hm:n∈keys es:=by
   have sc:=(x.el _ (wZ hj)).2
   exact jV.mpr ⟨_,wZ hj,ahV hp sc⟩
  refine bH (bH ?_)
  have:=q s.heap es ep t false (aiW a s.heap) x (by unfold dd1;rw [if_pos hm])
  cases s;exact this
 | none =>
  dsimp only
  have hm:n∉keys es:=fun m=>by
   obtain ⟨e,me,q1⟩:=jV.mp m
   have h1:=List.findIdx?_eq_none_iff.mp hr e me
   have h2:=ajX x.el me
   rw [q1] at h2
   rw [h2] at h1;cases h1
  have p1:=layNew_perm t es ((iw prog w).hash n) (.int n k)
  have f1:=layNew_fits t es ((iw prog w).hash n) (.int n k)
  obtain ⟨k1,z1⟩:=aay x.tk ((iw prog w).hash n) (.int n k)
  generalize FJ t es ((iw prog w).hash n) (.int n k)=L at p1 f1 k1 z1 ⊢
  obtain ⟨es1,t1,wd,gv⟩:=L
  dsimp only at p1 f1 k1 z1 ⊢
  have e1:Mq (iw prog w) es1.toList:=(x.el.push key rfl).perm (by rw [uq] at p1;exact p1)
  have pk:(keys es1).Perm (dd1 (keys es) n):=by
   unfold dd1
   rw [if_neg hm]
   have:=p1.map fun e=>iv e.2
   rw [uq,dN] at this
   exact this
  have S1:∀ h':Heap,h'.get? a=some { cls:=.type "set",dict:=none,data:=.set es1 (ep+1) t1,slots:=#[] }->fj prog w h' a es1 (ep+1) t1 ld:=fun h' o=>⟨o,e1,by rw [z1];exact k1,by lia,f1⟩
  have rest:wpAny (model prog w) A (wN a es1 t1 >>= fun _=>if (!wd && t1.tooFull)=true then (match tW t1 es1 (xU es1.size) with
    | (es2,t2,gave)=>(match gave with | true=>rule "set.scan.the-table-gave-way" | false=>pure ()) >>= fun _=>wN a es2 t2 >>= fun _=>pure (some true)) else pure (some true))
    (fun r s'=>wpAny (model prog w) A (match r with | some added=>pure added | none=>Li a (.int n k) ((iw prog w).hash n) 99999) Q E s') E s:=by
   refine aG (abu x.o rfl ?_ (Aq tb_g%))
   have o1:=ae2 x.o es1 t1
   have b1:=adQ s.heap a (Nv es1 t1)
   split
   ·have p2:=abJ t1 es1 (xU es1.size)
    have f2:=abK t1 es1 (xU es1.size)
    obtain ⟨k2,z2⟩:=aeY (es:=es1) k1.l (xU es1.size)
    generalize tW t1 es1 (xU es1.size)=L2 at p2 f2 k2 z2 ⊢
    obtain ⟨es2,t2,gv2⟩:=L2
    dsimp only at p2 f2 k2 z2 ⊢
    refine aG ?_
    have fin:wpAny (model prog w) A (wN a es2 t2 >>= fun _=>pure (some true)) (fun r s'=>wpAny (model prog w) A (match r with | some added=>pure added | none=>Li a (.int n k) ((iw prog w).hash n) 99999) Q E s') E { s with heap:=s.heap.update a (Nv es1 t1) }:=by
     refine aG <| abu o1 rfl (bH (bH ?_)) (Aq tb_g%)
     refine q _ es2 (ep+1+1) t2 true (b1.trans (adQ _ a _)) ⟨ae2 o1 es2 t2,e1.perm p2,by rw [z2];exact k2,by lia,f2⟩ ?_
     exact (show (keys es2).Perm (keys es1) from p2.map _).trans pk
    cases gv2
    ·exact bH fin
    ·exact jY fin
   ·exact bH (bH (q _ es1 (ep+1) t1 true b1 (S1 _ o1) pk))
  have go:∀ b:Bool,wpAny (model prog w) A (if b=true then hashByValue 8 (.int n k) >>= fun v=>(fun byValue=>wN a es1 (if byValue=true then t1 else { t1 with plain:=false }) >>= fun _=>if (!wd && (if byValue=true then t1 else { t1 with plain:=false }).tooFull)=true then (match tW (if byValue=true then t1 else { t1 with plain:=false }) es1 (xU es1.size) with
    | (es2,t2,gave)=>(match gave with | true=>rule "set.scan.the-table-gave-way" | false=>pure ()) >>= fun _=>wN a es2 t2 >>= fun _=>pure (some true)) else pure (some true)) v else pure true >>= fun v=>(fun byValue=>wN a es1 (if byValue=true then t1 else { t1 with plain:=false }) >>= fun _=>if (!wd && (if byValue=true then t1 else { t1 with plain:=false }).tooFull)=true then (match tW (if byValue=true then t1 else { t1 with plain:=false }) es1 (xU es1.size) with
    | (es2,t2,gave)=>(match gave with | true=>rule "set.scan.the-table-gave-way" | false=>pure ()) >>= fun _=>wN a es2 t2 >>= fun _=>pure (some true)) else pure (some true)) v)
    (fun r s'=>wpAny (model prog w) A (match r with | some added=>pure added | none=>Li a (.int n k) ((iw prog w).hash n) 99999) Q E s') E s:=fun b=>by
   cases b
   ·exact aG (bH rest)
   ·exact aG (pN (a:=true) rfl rest)
  cases gv
  ·exact aG (bH (go t1.plain))
  ·exact aG (jY (go t1.plain))
end
end Sx
set_option autoImplicit false
namespace Sx
open PySem PyProof.Rows
theorem ajZ {vs:List Value} {ns:List Int} (h:IntsAre vs ns):∀ {i:Nat} {v:Value},vs[i]? = some v->∃ n t,ns[i]? = some n/\v = .int n t:=by
 induction h with
 | nil=>intro i v e;cases i <;> cases e
 | cons n t _ ih =>
  intro i v e
  cases i with
  | zero=>cases e;exact ⟨n,t,rfl,rfl⟩
  | succ i=>exact ih e
section
variable {prog:aN} {w:World} {A:bC} {E:Value->Shared->Prop} {s:Shared}
theorem ae3 {R:j6->Shared->Prop} {S I l:Addr} {items:Array Value} {ns:List Int} {ld:Bool} (hh:A.in1.handled=none) (n1:S≠I) (n2:S≠l) (n3:l≠I) (hi:IntsAre items.toList ns) (few:items.size+1<scanBound) :
  ∀ (k i:Nat) (s:Shared) (es:Array (Int × Value)) (ep:Nat) (t:fP),items.size-i=k->i<=items.size->s.heap.IsListIter I l i->s.heap.IsList l items->fj prog w s.heap S es ep t ld->(keys es).Perm (dd (ns.take i)) ->
   (∀ (h':Heap) (tk:Nat) (es':Array (Int × Value)) (ep':Nat) (t':fP),(∀ b o,b≠S->b≠I->s.heap.get? b=some o->h'.get? b=some o)->fj prog w h' S es' ep' t' ld->(keys es').Perm (dd ns)->R (.ok (.ret .none)) { s with heap:=h',toks:=tk }) ->
   gj (model prog w) A (.builtin "set.update.loop" ⟨[.ref S,.ref I],[]⟩) R s:=by
 have len:ns.length=items.size:=by rw [<- fU,hi.length]
 have W:=Gz (prog:=prog) (w:=w) hh I l n3 items
 intro k
 induction k with
 | zero =>
  intro i s es ep t hk hle it li x pk q
  obtain rfl:i=items.size:=by lia
  refine sW F.entry_set_update_loop ?_;rw [uD F.plain_set_update_loop _]
  show wpAny _ A.in1 (jZ (.ref I) >>= _) _ _ s;refine aG (W.done s _ _ ⟨it,li⟩ fun h' tk kp=>?_)
  show wpAny _ A.in1 (ret Value.none) _ _ _
  refine bH (q h' tk es ep t (fun b o _ b2 e=>kp b o (by simpa using b2) e) (x.keep fun o e=>kp S o (by simpa using n1) e) ?_)
  rw [<- len,qT] at pk;exact pk
 | succ k ih =>
  intro i s es ep t hk hle it li x pk q
  have lt:i<items.size:=by lia
  refine sW F.entry_set_update_loop ?_;rw [uD F.plain_set_update_loop _]
  show wpAny _ A.in1 (jZ (.ref I) >>= _) _ _ s;refine aG (W.item i s _ _ lt ⟨it,li⟩ fun v h' tk hP st kp=>?_)
  obtain ⟨n,t0,en,rfl⟩:=ajZ hi (v:=v) (by rw [iD];exact hP)
  have x1:fj prog w h' S es ep t ld:=x.keep fun o e=>kp S o (by simpa using n1) e
  show wpAny _ A.in1 (wO [Value.int n t0] (setAdd S (.int n t0)) >>= _) _ _ _;refine aG (jR ?_)
  unfold setAdd
  refine jR (aG ((iw prog w).pyHash (k:=n) (decide_eq_true rfl) ?_))
  have room:es.size+1<scanBound:=by
   have h1:=pk.length_eq
   have h2:=ae1 (ns.take i)
   rw [gJ] at h2
   have h3:(keys es).length=es.size:=by unfold keys;simp
   lia
  refine ajY (s:={ s with heap:=h',toks:=tk+1 }) x1 room fun h2 es2 ep2 t2 b sb x2 p2=>?_
  have ae4:∀ b o,b≠S->h'.get? b=some o->h2.get? b=some o:=fun b o nb e=>by rw [sb.2 b nb];exact e
  refine bH ⟨oN F.plain_set_update_loop _,ih (i+1) _ es2 ep2 t2 tb_g% lt (st.1.at fun o e=>ae4 I o (aK n1) e) (st.2.at fun o e=>ae4 l o (aK n2) e) x2 ?_ fun h3 tk3 es3 ep3 t3 kp3 x3 p3=>?_⟩
  ·rw [agQ en];exact p2.trans (aeZ n pk)
  ·exact q h3 tk3 es3 ep3 t3 (fun b o b1 b2 e=>kp3 b o b1 b2 (ae4 b o b1 (kp b o (by simpa using b2) e))) x3 p3
end
end Sx
set_option autoImplicit false
set_option maxRecDepth 100000
namespace Sx
open PySem PyProof.Rows
section
variable {prog:aN} {w:World} {A:bC} {E:Value->Shared->Prop} {s:Shared}
noncomputable def iM (w:World):Bool:=!w.params.followText "set-order"
noncomputable def X8 (ld:Bool):Obj:={ cls:=.type "set",dict:=none,data:=.set #[] 0 (.fresh 0 0 ld) }
theorem agR (a:Value) {Q₁:Value->Shared->Prop} (h:Q₁ (.ref s.heap.objs.size) { s with heap:=s.heap.push (X8 (iM w)) }) :
  gj (model prog w) A (.call (.builtin "set.__new__") ⟨[.type "set",a],[]⟩) (wants Q₁ E) s:=by
 refine abz ?_;show wpAny _ A.in1 (abx "set.__new__" ⟨[.type "set",a],[]⟩ >>= fun _=>again (.builtin "set.__new__" ⟨[.type "set",a],[]⟩)) _ _ s
 refine aG (pN (F.newCall_set_1 a) (bH ⟨oN F.plain_set_new _,sW F.entry_set_new ?_⟩));rw [uD F.plain_set_new _]
 unfold gh.«set.__new__» ai0;have hsub:=sub_set_self
 obtain ⟨hp,g,d,tk,os⟩:=s
 dsimp only;wp_walk
 refine Av (bH ?_);dsimp only;simp only [newObj]
 refine aG (wpAny_alloc (bH (bH ?_)))
 exact h
set_option maxHeartbeats 3200000 in
theorem ae5 {l:Addr} {items:Array Value} {ns:List Int} {Q:Value->Shared->Prop} (hh:A.handled=none) (hl:s.heap.IsList l items) (hi:IntsAre items.toList ns) (few:items.size+1<scanBound)
  (q:∀ (h':Heap) (tk:Nat) (es:Array (Int × Value)) (ep:Nat) (t:fP),fj prog w h' s.heap.objs.size es ep t (iM w)->(keys es).Perm (dd ns)->(∀ b o,s.heap.get? b=some o->h'.get? b=some o)->Q (.ref s.heap.objs.size) { s with heap:=h',toks:=tk }) :
  wpAny (model prog w) A (call (.type "set") [.ref l]) Q E s:=by
 obtain ⟨c,tl,hmro⟩:=F.called_set.mro;have hmade:=F.called_set.made;have hsub:=F.called_set.sub
 refine Lx (abz ?_);show wpAny _ _ (callAny (.type "set") _) _ _ _
 refine bH ⟨Code.quiet_builtin _ tb_g%,sW F.entry_type_call ?_⟩;rw [Around.under_plain (weight_type_call_type "set" [.ref l] []) rfl]
 have h1:=F.called_set.notType;have h2:=F.called_set.canCreate;have hct:=F.typeCall_set_1 (.ref l)
 repeat (any_goals (first | assumption | wp_step))
 refine tR (agR (.ref l) (E:=E) (Q₁:=fun obj s₁=>obj = .ref s.heap.objs.size/\s₁={ s with heap:=s.heap.push (X8 (iM w)) }) ⟨rfl,rfl⟩) fun r s₁ hr=>?_
 rcases r with e | fl
 ·exact hr
 cases fl with
 | ret obj =>
  obtain ⟨rfl,rfl⟩:=hr
  have hS:(s.heap.push (X8 (iM w))).get? s.heap.objs.size=some (X8 (iM w)):=eE _ rfl
  have hT:adZ { s with heap:=s.heap.push (X8 (iM w)) } (.ref s.heap.objs.size) "set" := ⟨_,hS,rfl⟩
  have hli:=F.called_set.init.lookup;have hbi:=F.called_set.init.bind (.ref s.heap.objs.size)
  repeat (any_goals (first | assumption | wp_step))
  refine tR (abm (R:=wants (fun r s₂=>r = .none/\∃ h' tk es ep t,s₂={ s with heap:=h',toks:=tk }/\fj prog w h' s.heap.objs.size es ep t (iM w)/\(keys es).Perm (dd ns)/\∀ b o,s.heap.get? b=some o->h'.get? b=some o) E)
   F.called_set.init.plain F.entry_set_init (check_set_init_1 hT ?_)) fun r₂ s₂ hr₂=>?_
  ·obtain ⟨ol,hol,hcl,nl,hdl⟩:=hl
   obtain ⟨ocls,odict,odata,oslots⟩:=ol
   simp only at hcl hdl
   subst hcl;subst hdl
   have hlS:l<s.heap.objs.size:=bR hol
   have hol':=dR (X8 (iM w)) hol
   unfold X8 at hS hT hol' ⊢
   have hsls:=F.sub_list_set;have hslf:=F.sub_list_frozenset
   have hne:(Value.type "list" == Value.type "dict")=false:=by decide
   have hl1:Heap.IsList (s.heap.push { cls:=.type "set",dict:=none,data:=.set #[] 0 (.fresh 0 0 (iM w)) }) l items:=⟨_,hol',rfl,nl,rfl⟩
   unfold gh.«set.__init__» noKeywords aiZ
   generalize hPI:wV=PI;wp_walk;subst hPI
   refine abr hl1 ?_;refine aG (abB ?_)
   have z:(s.heap.push { cls:=.type "set",dict:=none,data:=.set #[] 0 (.fresh 0 0 (iM w)) }).objs.size=s.heap.objs.size+1:=qU ..
   refine ae3 (ld:=iM w) (by simp [hh]) (by rw [z];exact cO (xK _)) (qW hlS) (by rw [z];exact cO (um hlS)) hi few (items.size-0) 0 _ #[] 0 (.fresh 0 0 (iM w)) rfl (cB _)
    ⟨_,eE _ rfl,rfl,rfl⟩ (hl1.push _) ⟨dR _ hS,fun e m=>by simp at m,⟨rfl,List.Pairwise.nil,rfl,rfl⟩,by decide,rfl⟩ (by exact .nil) fun h' tk es ep t kp x p=>?_
   show wpAny _ _ _ _ _ _;refine bH ?_
   show wpAny _ _ (ret Value.none) _ _ _;refine bH ⟨rfl,h',tk,es,ep,t,rfl,x,p,fun b o e=>?_⟩
   have hb:=bR e
   exact kp b o (cO hb) (by rw [z];exact cO (um hb)) (dR _ (dR _ e))
  ·rcases r₂ with e | fl₂
   ·exact hr₂
   cases fl₂ with
   | ret r =>
    obtain ⟨rfl,h',tk,es,ep,t,rfl,x,p,kp⟩:=hr₂
    repeat (any_goals (first | assumption | wp_step))
    exact q _ _ _ _ _ x p kp
   | _=>exact hr₂.elim
 | _=>exact hr.elim
end
end Sx
set_option autoImplicit false
set_option maxRecDepth 100000
namespace Sx
open PySem PyProof.Rows
theorem jN:Slot "set_iterator" "__next__" "set_iterator.__next__" := .of (owner := "set_iterator") (n := "__next__") (by rw [Lh,K9];kernel_rfl) tb_g% tb_g% tb_g% (by first | exact .inl tb_g% | exact .inr tb_g%) (by rw [Lj];kernel_rfl)
theorem Zw:Slot "set_iterator" "__iter__" "set_iterator.__iter__" := .of (owner := "set_iterator") (n := "__iter__") (by rw [Lh,K9];kernel_rfl) tb_g% tb_g% tb_g% (by first | exact .inl tb_g% | exact .inr tb_g%) (by rw [Lj];kernel_rfl)
theorem Ew:Fx table "set_iterator.__next__" = some gh.«set_iterator.__next__» := entryFor_of_tree (by kernel_rfl)
theorem agS:Fx table "set_iterator.__iter__" = some gh.«dict_keyiterator.__iter__» := SJ (id' := "dict_keyiterator.__iter__") (by kernel_rfl) rfl tb_g% (by kernel_rfl)
theorem ae6:Fx table "set.__iter__" = some gh.«frozenset.__iter__» := SJ (id' := "frozenset.__iter__") (by kernel_rfl) rfl tb_g% (by kernel_rfl)
theorem Ey (a:Value):pQ "set_iterator.__next__" ⟨[a],[]⟩:=by unfold pQ;kernel_rfl
theorem agT (a:Value):pQ "set_iterator.__iter__" ⟨[a],[]⟩:=by unfold pQ;kernel_rfl
section
variable {prog:aN} {w:World} {A:bC} {E:Value->Shared->Prop} {s:Shared}
theorem aaA {M:Model} {src:Source} {n:Nat} {Q:Nat->Shared->Prop} (h0:n≠0) (q:∀ (i:Nat) (d:Drawn),i<n->Q i { s with drawn:=d }):wpAny M A (choose src n) Q E s:=fun Γ p _=>by
 unfold choose
 rw [Sem.wp_choose]
 exact ⟨h0,q _ _ (acK _ (Nat.pos_of_ne_zero h0))⟩
theorem Zx {M:Model} {α:Type}:∀ (n:Nat) (xs:List α) (s:Shared) {Q:List α->Shared->Prop},xs.length=n->(∀ (ys:List α) (d:Drawn),ys.Perm xs->Q ys { s with drawn:=d })->wpAny M A (drawOrder n xs) Q E s
 | 0,xs,s,Q,h,q=>by
  obtain rfl:=vX.mp h
  exact bH (q [] s.drawn .nil)
 | n+1,[],s,Q,h,q=>by cases h
 | n+1,x::xs,s,Q,h,q=>by
  show wpAny M A (choose .order (x::xs).length >>= _) Q E s
  refine aG (aaA (by rw [h];exact Nat.succ_ne_zero n) fun i d hi=>?_)
  rw [gR hi]
  refine aG (Zx n ((x::xs).eraseIdx i) _ (by rw [abP hi,h];rfl) fun ys d2 p=>bH (q _ d2 ?_))
  exact (p.cons _).trans (HJ hi)
noncomputable def itO (f:Value) (i:Nat) (a:Addr) (n ep:Nat):Obj:={ cls:=.type "set_iterator",dict:=none,data:=.fields #[f,.int i 0,.ref a,.int n 0,.int ep 0],slots:=#[] }
theorem Zy {I a:Addr} {f:Value} {i n ep:Nat} {Q:Value->Shared->Prop} (o:s.heap.get? I=some (itO f i a n ep)) (q:Q (.ref I) s):wpAny (model prog w) A (wV (.ref I)) Q E s:=by
 have hT:s.TypeIs (.ref I) "set_iterator" := ⟨_,o,rfl⟩
 refine Sy hT Zw (vV Zw hT agS ?_ (agT _))
 show wpAny _ _ (ret (.ref I)) _ _ s
 exact bH ⟨_,rfl,"set_iterator",_,hT,jN.lookup,q⟩
theorem Zz {α:Type} {Q:α->Shared->Prop} (hh:A.handled=none) (q:∀ (h':Heap) (x:Addr),(∀ b o,s.heap.get? b=some o->h'.get? b=some o)->adZ { s with heap:=h' } (.ref x) "StopIteration" -> E (.ref x) { s with heap:=h' }) :
  wpAny (model prog w) A (newExc (.type "StopIteration") [] >>= fun e=>(raiseNew e:Sem α)) Q E s:=by
 refine aG ?_
 simp only [newExc,newTuple]
 refine aG (yK ?_ (by size_fits));refine aG (m:=abC _ _) (pN (a:=Value.none) (by first | rfl | (simp only [abC];rfl)) ?_)
 refine yK ?_ (by size_fits)
 simp only [raiseNew]
 refine aG (wpAny_handled ?_);rw [hh]
 refine aG (bH (wpAny_throw (q _ _ (fun b o e=>dR _ (dR _ e)) ⟨_,eE _ rfl,rfl⟩)))
end
end Sx
set_option autoImplicit false
set_option maxRecDepth 100000
namespace Sx
open PySem PyProof.Rows
section
variable {prog:aN} {w:World} {A:bC} {E:Value->Shared->Prop} {s:Shared} {I a:Addr} {es:Array (Int × Value)} {ep:Nat} {t:fP} {ld:Bool}
noncomputable def Cr (prog:aN) (w:World) (s:Shared) (a:Addr) (sl i ep:Nat) (r:Option (Value × Nat)):Prop:=∀ (A:bC) (E:Value->Shared->Prop) (Q:Option (Value × Nat)->Shared->Prop),Q r s->wpAny (model prog w) A (setNext a sl i ep) Q E s
theorem aaB {sl i nx:Nat} {x:Value} {Q:Option Value->Shared->Prop} (o:s.heap.get? I=some (itO (.int sl 0) i a es.size ep)) (X:fj prog w s.heap a es ep t ld) (N:Cr prog w s a sl i ep (some (x,nx)))
  (q:∀ h',h'.get? I=some (itO (.int nx 0) (i+1) a es.size ep)->uf I s.heap h'->Q (some x) { s with heap:=h' }):wpAny (model prog w) A (jZ (.ref I)) Q E s:=by
 have hT:s.TypeIs (.ref I) "set_iterator" := ⟨_,o,rfl⟩
 unfold jZ
 refine aG (Ft (K8 (name:=rm "__next__") hT jN (vV jN hT Ew ?_ (Ey _))))
 unfold gh.«set_iterator.__next__»
 refine aG (pN (a:=(Value.ref I,[])) rfl ?_)
 refine aG (Lk o rfl ?_)
 dsimp only
 refine aG (Fj X.o rfl X.ft ?_)
 rw [if_neg (by simp)]
 refine aG (N _ _ _ ?_)
 dsimp only
 refine aG (Al o (by simp) fun h1 o1 b1=>?_)
 refine aG (Al o1 (by simp) fun h2 o2 b2=>bH ⟨x,rfl,bH (q h2 ?_ (b1.trans b2))⟩)
 rw [o2];rfl
theorem aaC {sl i:Nat} {Q:Option Value->Shared->Prop} (hh:A.handled=none) (o:s.heap.get? I=some (itO (.int sl 0) i a es.size ep)) (X:fj prog w s.heap a es ep t ld) (N:Cr prog w s a sl i ep none)
  (q:∀ h',(∀ b u,b≠I->s.heap.get? b=some u->h'.get? b=some u)->Q none { s with heap:=h' }):wpAny (model prog w) A (jZ (.ref I)) Q E s:=by
 have hT:s.TypeIs (.ref I) "set_iterator" := ⟨_,o,rfl⟩
 unfold jZ
 refine aG (Ft (K8 (name:=rm "__next__") hT jN (vV jN hT Ew ?_ (Ey _))))
 unfold gh.«set_iterator.__next__»
 refine aG (pN (a:=(Value.ref I,[])) rfl ?_)
 refine aG (Lk o rfl ?_)
 dsimp only
 refine aG (Fj X.o rfl X.ft ?_)
 rw [if_neg (by simp)]
 refine aG (N _ _ _ ?_)
 dsimp only
 refine aG (Al o (by simp) fun h1 o1 b1=>?_)
 refine Zz (A:=A.in1) hh fun h2 x kp ty=>?_
 refine aG (Le (T := "StopIteration") (b:=true) ty abD (bH (q h2 fun b u nb e=>kp b u ?_)))
 rw [b1.2 b nb];exact e
theorem bt' (h:w.params.followText "set-order" = true):({ program:=(model prog w).prog,params:=(model prog w).w.params }:Setting).params.followText "set-order" = true:=h
theorem aaD (X:fj prog w s.heap a es ep t ld) (bt:w.params.followText "set-order" = true) (i:Nat):Cr prog w s a 0 i ep (((LR (w.params.setOrder a ep) es)[i]?).map fun e=>(e.2,0)):=fun A E Q q=>by
 unfold setNext
 refine aG (Ao X.o rfl X.ft ?_);dsimp only
 unfold LC
 refine aG (aG (Av (bH ?_)))
 rw [if_pos (bt' bt),if_neg (by simp)]
 unfold setWalk
 refine aG (aG (Ao X.o rfl X.ft ?_));dsimp only
 unfold LC
 refine aG (aG (Av (bH ?_)))
 rw [if_pos (bt' bt)]
 exact aG (Av (bH (bH q)))
noncomputable def slotAt (t:fP):Nat->Nat
 | 0=>0
 | i+1=>t.place.getD i 0+1
theorem Yb (X:fj prog w s.heap a es ep t ld) (bt:w.params.followText "set-order" = false) (hl:ld=true) (pl:(!t.plain && decide (es.size>1))=false) {i:Nat} (hi:i<=es.size) :
  Cr prog w s a (slotAt t i) i ep ((es[i]?).map fun e=>(e.2,slotAt t (i+1))):=fun A E Q q=>by
 have bl:jf t.place (slotAt t i)=i:=by
  cases i with
  | zero=>exact X4 X.tk.r
  | succ i =>
   have l:i<t.place.size:=by rw [X.tk.n];lia
   have e:=getElem?_pos t.place i l
   show jf t.place (t.place.getD i 0+1)=i+1
   rw [Array.getD_eq_getD_getElem?,e]
   exact X5 X.tk.r e
 unfold setNext
 refine aG (Ao X.o rfl X.ft ?_);dsimp only
 unfold LC
 refine aG (aG (Av (bH ?_)))
 rw [if_neg (fun z=>by have z:w.params.followText "set-order" = true:=z;rw [bt] at z;cases z)]
 show wpAny _ _ (if (!t.plain && decide (es.size>1))=true then _ else _) _ _ _
 rw [if_neg (by rw [pl];decide)]
 refine aG (m:=if (!t.led && !es.isEmpty)=true then Tc "set:maker-not-led" else pure ()) ?_
 rw [if_neg (by rw [X.tk.l,hl];simp)]
 refine bH ?_
 rw [bl]
 refine bH ?_
 rcases jW i es.size with l | l
 ·have l2:i<t.place.size:=by rw [X.tk.n];exact l
  rw [getElem?_pos es i l] at q ⊢
  rw [getElem?_pos t.place i l2]
  have:slotAt t (i+1)=t.place[i]+1   := by show t.place.getD i 0+1=_;rw [Array.getD_eq_getD_getElem?,getElem?_pos t.place i l2];rfl
  simpa [this] using q
 ·rw [getElem?_neg es i tb_g%] at q ⊢
  exact q
theorem ae7 {ord:List Value} {sl:Nat->Nat} (hh:A.handled=none) (ne:a≠I) (hn:ord.length=es.size) (N:∀ (s:Shared) (i:Nat),fj prog w s.heap a es ep t ld->i<=es.size->Cr prog w s a (sl i) i ep ((ord[i]?).map fun v=>(v,sl (i+1)))) :
  Walks prog w A I [I,a] [I] es.size (fun i v=>ord[i]? = some v) (fun i h=>h.get? I=some (itO (.int (sl i) 0) i a es.size ep)/\fj prog w h a es ep t ld) where
 sub:=fun b hb=>by simp at hb;simp [hb]
 frame:=fun i h h' st kp=>⟨kp I (by simp) _ st.1,st.2.keep fun o e=>kp a (by simp) o e⟩
 item:=fun i s Q E hi st q=>by
  have nx:=N s i st.2 (mH hi)
  rw [gR (by rw [hn];exact hi)] at nx
  refine aaB st.1 st.2 nx fun h' o b=>?_
  have kp:∀ c u,c≠I->s.heap.get? c=some u->h'.get? c=some u:=fun c u nc e=>by rw [b.2 c nc];exact e
  exact q _ h' s.toks (gR (by rw [hn];exact hi)) ⟨o,st.2.keep fun u e=>kp a u ne e⟩ fun c u nc e=>kp c u (by simpa using nc) e
 done:=fun s Q E st q=>by
  have nx:=N s es.size st.2 (bV _)
  rw [yN (by rw [hn];exact bV _)] at nx
  exact aaC hh st.1 st.2 nx fun h' kp=>q h' s.toks fun c u nc e=>kp c u (by simpa using nc) e
 self:=fun i s Q E st q=>Zy st.1 q
end
end Sx
set_option autoImplicit false
set_option maxRecDepth 100000
namespace Sx
open PySem PyProof.Rows
section
variable {prog:aN} {w:World} {A:bC} {E:Value->Shared->Prop} {s:Shared} {I a tp:Addr} {es:Array (Int × Value)} {ep:Nat} {t:fP} {ld:Bool}
noncomputable def ordD (es:Array (Int × Value)) (ps:List Nat):List Value:=ps.map fun p=>(es.getD p (0,.none)).2
theorem aaE {ps:List Nat} (h:ps.Perm (mZ es.size)):(ordD es ps).Perm (es.toList.map (·.2)):=by
 refine (h.map _).trans ?_
 have:(mZ es.size).map (fun p=>(es.getD p (0,.none)).2)=es.toList.map (·.2):=by
  apply List.ext_getElem
  ·simp
  ·intro i h1 h2
   have l:i<es.size:=by simpa using h1
   rw [acd,acd,List.getElem_range,Array.getD_eq_getD_getElem?,getElem?_pos es i l]
   simp
 rw [this]
noncomputable def Jt (ps:List Nat):Obj:={ cls:=.type "tuple",data:=.seq (ps.map fun (i:Nat)=>mX i).toArray }
theorem Yc {i p:Nat} {h0:Int} {x:Value} {ps:List Nat} {Q:Option Value->Shared->Prop} (o:s.heap.get? I=some (itO (.ref tp) i a es.size ep)) (ot:s.heap.get? tp=some (Jt ps)) (X:fj prog w s.heap a es ep t ld)
  (hp:ps[i]? = some p) (hx:es[p]? = some (h0,x)) (q:∀ h',h'.get? I=some (itO (.ref tp) (i+1) a es.size ep)->uf I s.heap h'->Q (some x) { s with heap:=h' }):wpAny (model prog w) A (jZ (.ref I)) Q E s:=by
 have hT:s.TypeIs (.ref I) "set_iterator" := ⟨_,o,rfl⟩
 unfold jZ
 refine aG (Ft (K8 (name:=rm "__next__") hT jN (vV jN hT Ew ?_ (Ey _))))
 unfold gh.«set_iterator.__next__»
 refine aG (pN (a:=(Value.ref I,[])) rfl ?_)
 refine aG (Lk o rfl ?_)
 dsimp only
 refine aG (Fj X.o rfl X.ft ?_)
 rw [if_neg (by simp)]
 refine aG (qQ ot rfl ?_)
 dsimp only
 have e1:((ps.map fun (i:Nat)=>mX i).toArray)[(i:Int).toNat]? = some (.int p 0):=by
  show ((ps.map fun (i:Nat)=>mX i).toArray)[i]? = _
  rw [TJ,iB,hp];rfl
 rw [e1]
 dsimp only
 refine aG ?_
 unfold setNextDrawn
 refine aG (Ao X.o rfl X.ft ?_)
 dsimp only
 rw [if_neg (by simp)]
 have e2:es[(p:Int).toNat]? = some (h0,x):=hx
 rw [e2]
 refine bH ?_
 refine aG (Al o (by simp) fun h1 o1 b1=>bH ⟨x,rfl,bH (q h1 ?_ b1)⟩)
 rw [o1];rfl
theorem Yd {ps:List Nat} {Q:Option Value->Shared->Prop} (hh:A.handled=none) (o:s.heap.get? I=some (itO (.ref tp) ps.length a es.size ep)) (ot:s.heap.get? tp=some (Jt ps)) (X:fj prog w s.heap a es ep t ld)
  (q:∀ h',(∀ b u,b≠I->s.heap.get? b=some u->h'.get? b=some u)->Q none { s with heap:=h' }):wpAny (model prog w) A (jZ (.ref I)) Q E s:=by
 have hT:s.TypeIs (.ref I) "set_iterator" := ⟨_,o,rfl⟩
 unfold jZ
 refine aG (Ft (K8 (name:=rm "__next__") hT jN (vV jN hT Ew ?_ (Ey _))))
 unfold gh.«set_iterator.__next__»
 refine aG (pN (a:=(Value.ref I,[])) rfl ?_)
 refine aG (Lk o rfl ?_)
 dsimp only
 refine aG (Fj X.o rfl X.ft ?_)
 rw [if_neg (by simp)]
 refine aG (qQ ot rfl ?_)
 dsimp only
 have e1:((ps.map fun (i:Nat)=>mX i).toArray)[(ps.length:Int).toNat]? = none:=by
  show ((ps.map fun (i:Nat)=>mX i).toArray)[ps.length]? = _
  rw [TJ,iB,yN (bV _)];rfl
 rw [e1]
 dsimp only
 refine aG (Al o (by simp) fun h1 o1 b1=>?_)
 refine aG (Al o1 (by simp) fun h2 o2 b2=>?_)
 refine Zz (A:=A.in1) hh fun h3 x kp ty=>?_
 refine aG (Le (T := "StopIteration") (b:=true) ty abD (bH (q h3 fun b u nb e=>kp b u ?_)))
 rw [b2.2 b nb,b1.2 b nb];exact e
theorem Ye {ps:List Nat} (hh:A.handled=none) (ne:a≠I) (nt:tp≠I) (hp:ps.Perm (mZ es.size)) :
  Walks prog w A I [I,a,tp] [I] es.size (fun i v=>(ordD es ps)[i]? = some v) (fun i h=>h.get? I=some (itO (.ref tp) i a es.size ep)/\h.get? tp=some (Jt ps)/\fj prog w h a es ep t ld) where
 sub:=fun b hb=>by simp at hb;simp [hb]
 frame:=fun i h h' st kp=>⟨kp I (by simp) _ st.1,kp tp (by simp) _ st.2.1,st.2.2.keep fun o e=>kp a (by simp) o e⟩
 item:=fun i s Q E hi st q=>by
  have hl:ps.length=es.size:=by rw [hp.length_eq,Gb]
  have lt:i<ps.length:=by lia
  have pm:ps[i]<es.size:=Mv.mp (hp.mem_iff.mp (wZ lt))
  have ex:=getElem?_pos es ps[i] pm
  refine Yc (h0:=es[ps[i]].1) (x:=es[ps[i]].2) st.1 st.2.1 st.2.2 (gR lt) ex fun h' o b=>?_
  have kp:∀ c u,c≠I->s.heap.get? c=some u->h'.get? c=some u:=fun c u nc e=>by rw [b.2 c nc];exact e
  refine q _ h' s.toks ?_ ⟨o,kp tp _ nt st.2.1,st.2.2.keep fun u e=>kp a u ne e⟩ fun c u nc e=>kp c u (by simpa using nc) e
  unfold ordD
  rw [iB,gR lt]
  show some (es.getD ps[i] (0,.none)).2=_
  rw [Array.getD_eq_getD_getElem?,ex];rfl
 done:=fun s Q E st q=>by
  have hl:ps.length=es.size:=by rw [hp.length_eq,Gb]
  exact Yd hh (by rw [hl];exact st.1) st.2.1 st.2.2 fun h' kp=>q h' s.toks fun c u nc e=>kp c u (by simpa using nc) e
 self:=fun i s Q E st q=>Zy st.1 q
end
end Sx
set_option autoImplicit false
set_option maxRecDepth 100000
namespace Sx
open PySem PyProof.Rows
section
variable {prog:aN} {w:World} {A:bC} {E:Value->Shared->Prop} {s:Shared} {a:Addr} {es:Array (Int × Value)} {ep:Nat} {t:fP}
theorem agU {Q:Value->Shared->Prop} (hh:A.handled=none) (X:fj prog w s.heap a es ep t (iM w))
  (q:∀ (h':Heap) (d:Drawn) (I:Addr) (fp:List Addr) (ord:List Value) (St:Nat->Heap->Prop),ord.Perm (es.toList.map (·.2))->(∀ b o,s.heap.get? b=some o->h'.get? b=some o)->s.heap.objs.size<=I->(∀ b∈fp,b=a\/s.heap.objs.size<=b) ->
   (∀ B:bC,B.handled=none->Walks prog w B I fp [I] es.size (fun i v=>ord[i]? = some v) St)->St 0 h'->Q (.ref I) { s with heap:=h',drawn:=d }):wpAny (model prog w) A (wV (.ref a)) Q E s:=by
 have la:=bR X.o
 refine Sy X.ty F.slot_set_iter (vV F.slot_set_iter X.ty ae6 ?_ (F.args_set_iter_1 _))
 unfold gh.«frozenset.__iter__»
 refine aG (pN (a:=a) rfl ?_)
 refine aG ?_
 unfold ai1
 refine aG (Fj X.o rfl X.ft (bH ?_))
 refine aG ?_
 unfold setDrawn
 refine aG (Ao X.o rfl X.ft ?_);dsimp only
 unfold LC
 refine aG (aG (Av (bH (bH ?_))))
 show wpAny _ _ (if (!w.params.followText "set-order" && (!t.plain && decide (es.size>1)))=true then _ else _) _ _ _
 have ways:∀ (ord:List Value) (sl:Nat->Nat),sl 0=0->ord.Perm (es.toList.map (·.2))->(∀ (s:Shared) (i:Nat),fj prog w s.heap a es ep t (iM w)->i<=es.size->Cr prog w s a (sl i) i ep ((ord[i]?).map fun v=>(v,sl (i+1)))) ->
   Q (.ref s.heap.objs.size) { s with heap:=s.heap.push (itO (.int 0 0) 0 a es.size ep) }:=fun ord sl h0 hp N=>by
  refine q _ s.drawn s.heap.objs.size [s.heap.objs.size,a] ord (fun i h=>h.get? s.heap.objs.size=some (itO (.int (sl i) 0) i a es.size ep)/\fj prog w h a es ep t (iM w)) hp (fun b o e=>dR _ e) (bV _) ?_ (fun B hB=>ae7 hB (cO la) (by rw [hp.length_eq];simp) N)
   ⟨by rw [h0];exact eE _ rfl,X.keep fun o e=>dR _ e⟩
  intro b m
  rcases cU.mp m with rfl | m
  ·exact .inr (bV _)
  ·exact .inl (d8.mp m)
 have fin:∀ {Q':Value->Shared->Prop},Q' (.ref s.heap.objs.size) { s with heap:=s.heap.push (itO (.int 0 0) 0 a es.size ep) }->wpAny (model prog w) A.in1 (setEpoch a >>= fun e=>Tr "set_iterator" [mX 0,mX 0,.ref a,mX es.size,mX e] >>= fun r=>ret r) (fun fin s'=>∃ v,fin = .done (.ret v)/\∃ T' r,s'.TypeIs v T'/\Ly (.type T') "__next__" = pure (some r)/\Q' v s') E s:=fun {Q'} z=>by
  refine aG (abv X.o rfl X.ft ?_)
  unfold Tr
  refine aG (yK (bH ⟨_,rfl,"set_iterator",_,⟨_,eE _ rfl,rfl⟩,jN.lookup,?_⟩))
  exact z
 cases bt:w.params.followText "set-order" with
 | true =>
  rw [if_neg (by simp)]
  refine aG (bH (fin ?_))
  have pp:=aaz (w.params.setOrder a ep) es
  refine ways ((LR (w.params.setOrder a ep) es).toList.map (·.2)) (fun _=>0) rfl (pp.map _) fun s i X' _=>?_
  have:=aaD X' bt i
  rw [iB,iD,Vs]
  exact this
 | false =>
  have hl:iM w=true:=by unfold iM;rw [bt];rfl
  cases pl:(!t.plain && decide (es.size>1)) with
  | false =>
   rw [if_neg (by simp)]
   refine aG (bH (fin ?_))
   refine ways (es.toList.map (·.2)) (slotAt t) rfl .rfl fun s i X' hi=>?_
   have:=Yb X' bt hl pl hi
   rw [iB,iD,Vs]
   exact this
  | true =>
   rw [if_pos (by simp)]
   refine aG (Zx es.size (mZ es.size) _ (Gb) fun ps d hp=>aG ?_)
   have zl:(ps.map fun (i:Nat)=>mX i).length<=sizeLine:=by rw [bA,hp.length_eq,Gb];exact Aq X.few
   refine SN ?_ zl
   have X1:fj prog w (s.heap.push (Jt ps)) a es ep t (iM w):=X.keep fun o e=>dR _ e
   refine aG (abv (s:={ s with heap:=s.heap.push (Jt ps),drawn:=d }) X1.o rfl X1.ft ?_)
   unfold Tr
   refine aG (yK (bH ⟨_,rfl,"set_iterator",_,⟨_,eE _ rfl,rfl⟩,jN.lookup,?_⟩))
   have zt:(s.heap.push (Jt ps)).objs.size=s.heap.objs.size+1:=qU ..
   refine q _ d (s.heap.push (Jt ps)).objs.size [(s.heap.push (Jt ps)).objs.size,a,s.heap.objs.size] (ordD es ps) (fun i h=>h.get? (s.heap.push (Jt ps)).objs.size=some (itO (.ref s.heap.objs.size) i a es.size ep)/\h.get? s.heap.objs.size=some (Jt ps)/\fj prog w h a es ep t (iM w)) (aaE hp) (fun b o e=>dR _ (dR _ e)) (by rw [zt];exact m9 _) ?_
    (fun B hB=>Ye hB (by rw [zt];exact cO (um la)) (by rw [zt];exact cO (xK _)) hp) ⟨eE _ rfl,dR _ (eE _ rfl),X1.keep fun o e=>dR _ e⟩
   intro b m
   rcases cU.mp m with rfl | m
   ·exact .inr (by rw [zt];exact m9 _)
   rcases cU.mp m with rfl | m
   ·exact .inl rfl
   ·exact .inr (by rw [d8.mp m];exact bV _)
end
end Sx
set_option autoImplicit false
set_option maxRecDepth 100000
namespace Sx
open PySem PyProof.Rows
section
variable {prog:aN} {w:World} {A:bC} {E:Value->Shared->Prop} {s:Shared} {r:Addr} {es:Array (Int × Value)} {ep:Nat} {t:fP}
theorem ae8 {Q:Bool->Shared->Prop} (hT:s.TypeIs (.ref r) "set") (h:Q false s):wpAny (model prog w) A (Nx (.ref r)) Q E s:=by
 unfold Nx;refine aG (Lg hT F.slot_set_len.lookup ?_)
 generalize hid:("set.__len__" : String)=id0
 wp_delta;rw [show splitId id0=some ("set","__len__") from by subst hid;decide +kernel];subst hid
 refine aG (Le (T := "set") (b:=true) hT (by rw [Lj];kernel_rfl) ?_);refine qO (fun hab=>absurd hab (by decide)) (fun _=>?_)
 refine qO (fun _=>?_) (fun hab=>absurd tb_g% hab);exact aG (S7 hT (bH h))
noncomputable def HN (acc:Array Value) (c:Nat):Obj:={ cls:=.type "list",dict:=none,data:=.seq acc c,slots:=#[] }
theorem Rh {Q:List Value->Shared->Prop} (hh:A.handled=none) (X:fj prog w s.heap r es ep t (iM w))
  (q:∀ (h':Heap) (tk:Nat) (d:Drawn) (acc:List Value),acc.Perm (es.toList.map (·.2))->(∀ b o,s.heap.get? b=some o->h'.get? b=some o)->Q acc { s with heap:=h',toks:=tk,drawn:=d }) :
  wpAny (model prog w) A (collect (.ref r)) Q E s:=by
 have lr:=bR X.o
 have hn:=Aq X.few
 unfold collect
 refine aG (abB (sW F.entry_proto_collect ?_));rw [uD F.plain_proto_collect _]
 show wpAny _ A.in1 (Mp [] >>= fun l=>again (.builtin "list.__iadd__" ⟨[l,.ref r],[]⟩)) _ _ s;refine aG (yK ?_)
 refine bH ⟨oN F.plain_list_iadd _,sW F.entry_list_iadd ?_⟩;rw [uD F.plain_list_iadd _]
 have hS:(s.heap.push (HN #[] 0)).get? s.heap.objs.size=some (HN #[] 0):=eE _ rfl
 have X1:fj prog w (s.heap.push (HN #[] 0)) r es ep t (iM w):=X.keep fun o e=>dR _ e
 have z1:(s.heap.push (HN #[] 0)).objs.size=s.heap.objs.size+1:=qU ..
 show wpAny _ A.in1 (JN (.ref s.heap.objs.size) (.ref r) (.ref s.heap.objs.size)) _ _ { s with heap:=s.heap.push (HN #[] 0) }
 unfold JN
 refine aG (S7 (T := "set") (fj.ty (s:={ s with heap:=s.heap.push (HN #[] 0) }) X1) ?_)
 have h1:Ny (.ref s.heap.objs.size) (.ref r)=false:=by simp [Ny,qW lr]
 rw [if_neg (by rw [h1];decide)]
 refine aG (agU (A:=A.in1) (s:={ s with heap:=s.heap.push (HN #[] 0) }) hh X1 fun h' d I fp ord St hp kp hI hfp W st=>?_)
 have hS2:h'.get? s.heap.objs.size=some (HN #[] 0):=kp _ _ hS
 have X2:fj prog w h' r es ep t (iM w):=X1.keep fun o e=>kp r o e
 have nI:s.heap.objs.size≠I:=by rw [z1] at hI;lia
 have nf:s.heap.objs.size∉fp:=fun m=>by
  rcases hfp _ m with e | e
  ·exact qW lr e
  ·rw [z1] at e;lia
 have hlen:ord.length=es.size:=by rw [hp.length_eq];simp
 have key:∀ (h2:Heap) (c:Nat),St 0 h2->(∀ b o,b≠s.heap.objs.size->h'.get? b=some o->h2.get? b=some o)->h2.get? s.heap.objs.size=some (HN #[] c) ->
   gj (model prog w) A (.builtin "list.extend.loop" ⟨[.ref s.heap.objs.size,.ref I,.ref s.heap.objs.size],[]⟩) (fun res s'=>∃ (h3:Heap) (tk:Nat) (acc:Array Value) (c':Nat),res = .ok (.ret (.ref s.heap.objs.size))/\s'={ s with heap:=h3,toks:=tk,drawn:=d }/\acc.toList=ord/\h3.get? s.heap.objs.size=some (HN acc c')/\∀ b o,s.heap.get? b=some o->h3.get? b=some o)
    { s with heap:=h2,drawn:=d }:=fun h2 c st2 kp2 hS3=>by
  refine abn (W A.in1 hh).toS hn s.heap.objs.size nf (.ref s.heap.objs.size) es.size 0 _ #[] c rfl (cB _) st2 hS3 (ad1 _) fun s' acc c' hm hS' hacc=>?_
  obtain ⟨h3,g3,d3,tk3,o3⟩:=s'
  have e1:g3=s.gens:=hm.gens
  have e2:d3=d:=hm.drawn
  have e3:o3=s.os:=hm.os
  subst e1;subst e2;subst e3
  refine ⟨h3,tk3,acc,c',rfl,rfl,?_,hS',fun b o e=>hm.heap b o (fun m=>?_) (kp2 b o (cO (bR e)) (kp b o (dR _ e)))⟩
  ·apply List.ext_getElem?
   intro i
   rw [iD]
   rcases jW i es.size with l | l
   ·have e:=getElem?_pos acc i (by rw [hacc.1];exact l)
    rw [hacc.2 i _ e,e]
   ·rw [getElem?_neg acc i (by rw [hacc.1];lia),yN tb_g%]
  ·have lb:=bR e
   rcases cU.mp m with rfl | m
   ·exact oU _ lb
   ·have m:b=I:=d8.mp m
    have hI:s.heap.objs.size+1<=I:=by rw [<- z1];exact hI
    have lb:I<s.heap.objs.size:=m ▸ lb
    exact absurd lb (M8.mpr (Nat.le_of_succ_le hI))
 have fin:∀ (res:j6) (s':Shared),(∃ (h3:Heap) (tk:Nat) (acc:Array Value) (c':Nat),res = .ok (.ret (.ref s.heap.objs.size))/\s'={ s with heap:=h3,toks:=tk,drawn:=d }/\acc.toList=ord/\h3.get? s.heap.objs.size=some (HN acc c')/\∀ b o,s.heap.get? b=some o->h3.get? b=some o) ->
   ∃ v,res = .ok (.ret v)/\wpAny (model prog w) A (match v with
    | .ref a=>load a >>= fun o=>match o.data with
     | .seq xs _=>pure xs.toList
     | _=>Tc "internal:collect"
    | _=>Tc "internal:collect") Q E s':=by
  rintro res s' ⟨h3,tk,acc,c',rfl,rfl,ea,hS',kp3⟩
  refine ⟨_,rfl,aG (wpAny_load hS' (bH ?_))⟩
  exact q h3 tk d acc.toList (by rw [ea];exact hp) kp3
 refine aG (jR (ae8 (fj.ty (s:={ s with heap:=h',drawn:=d }) X2) ?_))
 refine qO (fun _=>?_) (fun _=>?_)
 ·refine aG (jY (aG ?_))
  show wpAny _ _ (Tt s.heap.objs.size (·.push .none) >>= fun _=>Tt s.heap.objs.size (·.pop)) _ _ _
  refine aG (qP hS2 rfl ?_)
  have hS3:=yO (gU (·.push Value.none)) hS2 rfl
  refine qP (hz:=by seq_fits) hS3 rfl ?_
  have hS4:=yO (gU (·.pop)) hS3 rfl
  have ot:∀ b o,b≠s.heap.objs.size->h'.get? b=some o->((h'.update s.heap.objs.size (gU (·.push Value.none))).update s.heap.objs.size (gU (·.pop))).get? b=some o:=fun b o nb e=>(m8 _ _ (aK nb)).trans ((m8 _ _ (aK nb)).trans e)
  refine bH ⟨oN F.plain_extend_loop _,tR (key _ _ ((W A hh).frame 0 _ _ st fun b m o e=>ot b o (fun z=>nf (by rw [<- z];exact m)) e) ot hS4) fun res s' z=>?_⟩
  obtain ⟨v,rfl,g⟩:=fin res s' z
  exact g
 ·refine bH ⟨oN F.plain_extend_loop _,tR (key h' 0 st (fun b o _ e=>e) hS2) fun res s' z=>?_⟩
  obtain ⟨v,rfl,g⟩:=fin res s' z
  exact g
end
end Sx
namespace L2
open PySem PySem.Spec PyProof.Rows
section
variable {X:Cx}
noncomputable def SetO (P:aN) (w:World) (a:Addr) (ns:List Int):HO:=.ext fun h=>∃ es ep t,Sx.fj P w h a es ep t (Sx.iM w)/\(Sx.keys es).Perm (Sx.dd ns)
theorem Inv.drew {pins:List (Addr × Obj)} {σ:List (Option V)} {H:Hp} {s:Shared} (d:Drawn) (I:Inv X pins σ H s):Inv X pins σ H { s with drawn:=d }:=⟨I.ok,I.os,I.bare,I.base,I.loc,I.cell,I.free,I.qC,I.pin,I.hok,I.len⟩
noncomputable def rSetC (P:aN) (w:World) (K:bh):List V->Hp->VK->Prop:=fun xs H Q=>∃ a ns,xs=[V.ref a]/\SqL K H a (ns.map V.int)/\ns.length<1000/\∀ l:Addr,H l=none->Q (.ref l) (upd H l (SetO P w l ns))
theorem aaF (hc:X.calm=true):jD X (.type "set") (rSetC X.prog X.w X.K):=by
 intro pins s σ H xs us Q I r h
 obtain ⟨a,ns,rfl,ha,few,q⟩:=h
 obtain ⟨u,rfl,ru⟩:=vals1 r
 cases ru
 obtain ⟨its,rv,p,hz⟩:=I.list ha
 have hI:=intsAre_of rv
 have hl:its.length=ns.length:=by rw [<- rv.length,bA]
 have hs:its.toArray.size=its.length:=dY
 refine Sx.ae5 (items:=its.toArray) (ns:=ns) (I.ok.hd hc) p.isList (by simpa using hI) (by unfold scanBound;lia) fun h' tk es ep t x pk kp=>?_
 refine ⟨.ref s.heap.objs.size,_,I.laid (t':=tk) kp (bV _) (show eG X.prog X.w _ h' s.heap.objs.size (SetO X.prog X.w s.heap.objs.size ns) from ⟨⟨es,ep,t,x,pk⟩,⟨_,x.o⟩,fun h1 h2 ⟨e,p1,t1,y,pe⟩ k=>⟨e,p1,t1,y.keep k,pe⟩⟩),rfl,q _ (I.hok.fresh (bV _))⟩
noncomputable def aj0 (P:aN) (w:World):List V->Hp->VK->Prop:=fun xs H Q=>∃ a ns,xs=[V.ref a]/\H a=some (SetO P w a ns)/\∀ (l:Addr) (ns':List Int),H l=none->ns'.Perm (Sx.dd ns)->ns'.Pairwise (· <= ·)->Q (.ref l) (upd H l (.lst (ns'.map V.int)))
theorem Ks {P:aN} {w:World}:∀ {es:List (Int × Value)},Mq (iw P w) es->IntsAre (es.map (·.2)) (es.map fun e=>Sx.iv e.2)
 | [],_=>.nil
 | (h,v)::r,e=>by
  obtain ⟨⟨k,hk,_⟩,hs⟩:=e (h,v) cZ
  have hk:BP k v=true:=hk
  cases v <;> first | (simp [BP] at hk;done) | skip
  exact .cons _ _ (Ks fun x m=>e x (gk _ m))
theorem IntsAre.aj1 {us vs:List Value} {ns:List Int} (h:IntsAre vs ns) (p:us.Perm vs):∃ ms,IntsAre us ms/\ms.Perm ns:=by
 induction p generalizing ns with
 | nil=>exact ⟨ns,h,.rfl⟩
 | cons x _ ih =>
  cases h with
  | cons n t h =>
   obtain ⟨ms,a,b⟩:=ih h
   exact ⟨n::ms,.cons n t a,b.cons n⟩
 | swap x y l =>
  cases h with
  | cons n t h =>
   cases h with
   | cons m u h=>exact ⟨m::n::_,.cons m u (.cons n t h),.swap ..⟩
 | trans _ _ ih1 ih2 =>
  obtain ⟨ms,a,b⟩:=ih2 h
  obtain ⟨ks,c,d⟩:=ih1 a
  exact ⟨ks,c,d.trans b⟩
theorem Yg (hc:X.calm=true):jD X (.builtin "sorted") (aj0 X.prog X.w):=by
 intro pins s σ H xs us Q I r h
 obtain ⟨a,ns,rfl,ha,q⟩:=h
 obtain ⟨u,rfl,ru⟩:=vals1 r
 cases ru
 obtain ⟨⟨es,ep,t,x,pk⟩,_,_⟩:=I.hok a _ ha
 apply Vo Nr Nm Np (U7 _);unfold gh.«sorted»
 apply aG (m:=Lz "sorted" 1 1 _);apply bH
 apply aG;refine Sx.Rh (A:=X.A.in1) (I.ok.hd hc) x fun h1 tk d acc pa kp=>?_
 obtain ⟨ms,hI,pm⟩:=IntsAre.aj1 (Ks x.el) pa
 have hz:acc.length<=sizeLine:=by rw [pa.length_eq,bA,fU];exact Aq x.few
 apply aG;refine Aw ?_ hz
 have hoL:(h1.push (cM "list" acc.toArray 0)).get? h1.objs.size=some (cM "list" acc.toArray 0):=eE _ rfl
 apply aG;refine jR (vV Ni ⟨_,hoL,rfl⟩ Nh (Tm.HD hoL hI hz fun out ns' a1 a2 a3=>⟨_,rfl,?_⟩) (U0 _))
 refine bH ⟨_,rfl,?_⟩
 obtain ⟨e,he⟩:=U5 (vs:=acc) (out:=out) hoL
 have hb:∀ b ob,s.heap.get? b=some ob->b<h1.objs.size:=fun b ob e'=>bR (kp b ob e')
 have pf:ns'.Perm (Sx.dd ns):=(a2.trans pm).trans pk
 refine ⟨.ref h1.objs.size,_,(I.drew d).Ho (t':=tk) (fun b ob e'=>?_) (fun b ob e'=>cO (hb b ob e')) (show eG X.prog X.w _ _ h1.objs.size (.lst (ns'.map V.int)) from ⟨?_,out.toList,e,mV a1,by simpa using he⟩),rfl,q _ ns' (I.none_of fun b ob e'=>cO (hb b ob e')) pf a3⟩
 ·have hlt:=hb b ob e'
  rw [U3 (cO hlt) (by rw [Bu];exact um hlt)];exact dR _ (kp b ob e')
 ·rw [bA,(a2.trans pm).length_eq,bA,fU];exact Aq x.few
end
end L2
set_option autoImplicit false
namespace RG
noncomputable abbrev Ls:=List (List Int)
noncomputable def Sd (l:List Int):Prop:=l.Pairwise (· <= ·)
noncomputable def srt (ns:List Int):List Int:=ns.mergeSort fun a b=>decide (a<=b)
theorem mW:∀ {xs ys:List Int},xs.Perm ys->xs.Pairwise (· <= ·)->ys.Pairwise (· <= ·)->xs=ys
 | [],ys,p,_,_=>by rw [acj.mp p]
 | x::xs,[],p,_,_=>absurd p (by simp)
 | x::xs,y::ys,p,h1,h2=>by
  have a1:=iV.mp h1
  have a2:=iV.mp h2
  have e:x=y:=by
   have m1:x∈y::ys:=p.mem_iff.mp cZ
   have m2:y∈x::xs:=p.mem_iff.mpr cZ
   rcases cU.mp m1 with z | z
   ·exact z
   ·rcases cU.mp m2 with z' | z'
    ·exact z'.symm
    ·exact ac7 (a1.1 y z') (a2.1 x z)
  subst e
  rw [mW (adH p) a1.2 a2.2]
theorem gZ (ns:List Int):(srt ns).Perm ns:=ab1 _ _
theorem rO (ns:List Int):Sd (srt ns):=by
 have:=abR (le:=fun a b:Int=>decide (a<=b)) (fun a b c h1 h2=>by simp only [decide_eq_true_eq] at *; lia) (fun a b=>by simp only [adk,decide_eq_true_eq];lia) ns
 exact this.imp fun h=>of_decide_eq_true h
theorem nM {ns ms:List Int} (p:ms.Perm ns) (h:ms.Pairwise (· <= ·)):ms=srt ns:=mW (p.trans (gZ ns).symm) h (rO ns)
theorem fZ (ns:List Int):(srt ns).length=ns.length:=(gZ ns).length_eq
theorem pC {z:Int} {ns:List Int}:z∈srt ns↔z∈ns:=(gZ ns).mem_iff
theorem ae9 {ns:List Int} (h:Sd ns):srt ns=ns:=(nM (Vt _) h).symm
noncomputable def pick (o:Bool):List Int->List Int
 | a::b::r=>(if o then b else a)::pick o r
 | _=>[]
noncomputable def lft:List Int->List Int
 | _::_::r=>lft r
 | l=>l
theorem vG:∀ l:List Int,(lft l).length=l.length % 2
 | []=>rfl
 | [_]=>rfl
 | _::_::r=>by
  have:=vG r
  show (lft r).length=(r.length+1+1) % 2
  lia
theorem lM (o:Bool):∀ l:List Int,(pick o l).length=l.length / 2
 | []=>by simp [pick]
 | [_]=>by simp [pick]
 | _::_::r=>by
  have:=lM o r
  show (pick o r).length+1=(r.length+1+1) / 2
  lia
theorem Ri:∀ l:List Int,lft l=l.drop (l.length-l.length % 2)
 | []=>rfl
 | [_]=>rfl
 | a::b::r=>by
  have:=Ri r
  show lft r=(a::b::r).drop (r.length+1+1-(r.length+1+1) % 2)
  rw [show r.length+1+1-(r.length+1+1) % 2=(r.length-r.length % 2)+1+1 by lia,ab2,ab2]
  exact this
theorem ZC {z:Int}:∀ {l:List Int},z∈lft l->z∈l
 | [],h=>h
 | [_],h=>h
 | _::_::r,h=>gk _ (gk _ (ZC (l:=r) h))
theorem Rj {o:Bool} {z:Int}:∀ {l:List Int},z∈pick o l->z∈l
 | [],h=>nomatch h
 | [_],h=>nomatch h
 | a::b::r,h=>by
  rcases cU.mp h with e | e
  ·cases o
   ·rw [e];exact cZ
   ·rw [e];exact gk _ cZ
  ·exact gk _ (gk _ (Rj (l:=r) e))
theorem afa:∀ {l:List Int},Sd l->Sd (lft l)
 | [],h=>h
 | [_],h=>h
 | _::_::r,h=>afa (l:=r) (iV.mp (iV.mp h).2).2
noncomputable def cnt (x:Int) (l:List Int):Nat:=(l.filter fun z=>decide (z<=x)).length
noncomputable def val:Ls->Nat
 | []=>0
 | l::r=>l.length+2*val r
noncomputable def nr (x:Int):Ls->Nat
 | []=>0
 | l::r=>cnt x l+2*nr x r
noncomputable def pot (h:Nat):Ls->Nat
 | []=>0
 | l::r=>h*2 ^ h*l.length+pot (h+1) r
theorem Yh (ls:Ls):val ls=(ls.headD []).length+2*val ls.tail:=by cases ls <;> rfl
theorem afb (h:Nat) (ls:Ls):pot h ls=h*2 ^ h*(ls.headD []).length+pot (h+1) ls.tail:=by
 cases ls
 ·show 0=h*2 ^ h*0+0;rw [M7]
 ·rfl
theorem Pa {P:List Int->Prop} {ls:Ls} (h:∀ l∈ls,P l) (h0:P []):P (ls.headD []):=by
 cases ls
 ·exact h0
 ·exact h _ cZ
theorem Yi {P:List Int->Prop} {ls:Ls} (h:∀ l∈ls,P l):∀ l∈ls.tail,P l:=fun l hl=>h l (ab0 hl)
noncomputable def gH (t:Int) (ls:Ls) (w:Nat):Ls :=
 if w=0 then ls else (if w % 2=1 then srt (ls.headD []++[t]) else ls.headD [])::gH t ls.tail (w / 2)
termination_by w
decreasing_by lia
theorem gP (t:Int) (ls:Ls):gH t ls 0=ls:=by rw [gH,if_pos rfl]
theorem ig {w:Nat} (t:Int) (ls:Ls) (h:w≠0):gH t ls w=(if w % 2=1 then srt (ls.headD []++[t]) else ls.headD [])::gH t ls.tail (w / 2):=by rw [gH,if_neg h]
theorem aaG {w:Nat} (t:Int) (h:w≠0):gH t [[]] w=gH t [] w:=by rw [ig t _ h,ig t [] h];rfl
theorem Ku (t:Int):∀ (w:Nat) (ls:Ls),val (gH t ls w)=val ls+w:=by
 intro w
 induction w using Gn with
 | _ w ih =>
  intro ls
  by_cases h:w=0
  ·rw [h,gP];rfl
  ·rw [ig t ls h]
   show jG _+2*val _=_
   rw [ih (w / 2) tb_g%,Yh ls]
   split
   ·rw [fZ,dh];show _+1+_=_;lia
   ·lia
theorem aaH (t:Int):∀ (w:Nat) (h:Nat) (ls:Ls),pot h ls<=pot h (gH t ls w):=by
 intro w
 induction w using Gn with
 | _ w ih =>
  intro h ls
  by_cases hw:w=0
  ·rw [hw,gP];exact bV _
  ·rw [ig t ls hw,afb h ls]
   show _<=h*2 ^ h*jG _+pot (h+1) _
   have:=ih (w / 2) tb_g% (h+1) ls.tail
   refine acH (acC _ ?_) this
   split
   ·rw [fZ,dh];lia
   ·exact bV _
theorem aaI {P:List Int->Prop} (t:Int) (h0:P []) (h1:∀ l,P l->P (srt (l++[t]))):∀ (w:Nat) (ls:Ls),(∀ l∈ls,P l)->∀ l∈gH t ls w,P l:=by
 intro w
 induction w using Gn with
 | _ w ih =>
  intro ls hl
  by_cases hw:w=0
  ·rw [hw,gP];exact hl
  ·rw [ig t ls hw]
   intro l m
   rcases cU.mp m with e | e
   ·rw [e]
    split
    ·exact h1 _ (Pa hl h0)
    ·exact Pa hl h0
   ·exact ih (w / 2) tb_g% ls.tail (Yi hl) l e
noncomputable def Full (ls:Ls):Prop:=∀ l,ls.getLast? = some l->l≠[]
theorem vH {l:List Int} {ls:Ls} (h:Full ls) (h0:ls=[]->l≠[]):Full (l::ls):=by
 intro m hm
 cases ls with
 | nil=>simp at hm;rw [<- hm];exact h0 rfl
 | cons a r=>exact h m (by rw [abS] at hm;exact hm)
theorem qG {ls:Ls} (h:Full ls):Full ls.tail:=by
 intro m hm
 cases ls with
 | nil=>exact nomatch hm
 | cons a r =>
  cases r with
  | nil=>exact nomatch hm
  | cons b r=>exact h m (by rw [abS];exact hm)
theorem Rm {t:Int} {w:Nat} {ls:Ls} (h:w≠0):gH t ls w≠[]:=by rw [ig t ls h];exact Uc _ _
theorem aaJ {t:Int} {w:Nat} {ls:Ls} (h:gH t ls w=[]):w=0/\ls=[]:=by
 by_cases hw:w=0
 ·rw [hw,gP] at h;exact ⟨hw,h⟩
 ·exact absurd h (Rm hw)
theorem Yj (t:Int):∀ (w:Nat) (ls:Ls),Full ls->Full (gH t ls w):=by
 intro w
 induction w using Gn with
 | _ w ih =>
  intro ls hl
  by_cases hw:w=0
  ·rw [hw,gP];exact hl
  ·rw [ig t ls hw]
   refine vH (ih (w / 2) tb_g% _ (qG hl)) fun e=>?_
   have hw2:=(aaJ e).1
   rw [if_pos (show w % 2=1 by lia)]
   intro z
   have:=congrArg jG z
   rw [fZ,dh] at this
   exact absurd this (by show ¬ _+1=0;lia)
inductive Stl (room:Int):Nat->Int->Int->Int->Ls->Ls->Int->Int->Int->Prop
 | nil (h:Nat) (tn ov un:Int):Stl room h tn ov un [] [] tn ov un
 | keep {h:Nat} {tn ov un:Int} {l:List Int} {ls out:Ls} {tn' ov' un':Int}:(l.length:Int)<=room->Stl room (h+1) tn ov un ls out tn' ov' un'->Stl room h tn ov un (l::ls) (l::out) tn' ov' un'
 | turn {h:Nat} {tn ov un:Int} {l:List Int} {ls out:Ls} {tn' ov' un':Int}:room<(l.length:Int) ->
   Stl room (h+1) (tn+1) (if tn % 2=0 then ov+2 ^ h else ov) (if tn % 2=0 then un else un+2 ^ h) (srt (ls.headD []++pick (decide (tn % 2=1)) l)::ls.tail) out tn' ov' un'->Stl room h tn ov un (l::ls) (lft l::out) tn' ov' un'
theorem Stl.val {room:Int} {h:Nat} {tn ov un:Int} {ls out:Ls} {tn' ov' un':Int} (a:Stl room h tn ov un ls out tn' ov' un'):val out=val ls:=by
 induction a with
 | nil=>rfl
 | keep _ _ ih=>show _+2*_=_+2*_;rw [ih]
 | @turn _ _ _ _ l ls _ _ _ _ _ _ ih =>
  show jG _+2*_=_+2*_
  rw [ih,vG]
  show _+2*(jG _+2*RG.val ls.tail)=_
  rw [fZ,dh,lM,Yh ls]
  lia
theorem Stl.all {P:List Int->Prop} (h0:P []) (hL:∀ l,P l->P (lft l)) (hP:∀ l m o,P l->P m->P (srt (l++pick o m))) {room:Int} {h:Nat} {tn ov un:Int} {ls out:Ls} {tn' ov' un':Int} (a:Stl room h tn ov un ls out tn' ov' un'):(∀ l∈ls,P l)->∀ l∈out,P l:=by
 induction a with
 | nil=>exact id
 | keep _ _ ih =>
  intro hl l m
  rcases cU.mp m with e | e
  ·rw [e];exact hl _ cZ
  ·exact ih (fun l hm=>hl l (gk _ hm)) l e
 | @turn _ _ _ _ l0 ls _ _ _ _ _ _ ih =>
  intro hl l m
  have h1:P l0:=hl _ cZ
  have h2:∀ l∈ls,P l:=fun l hm=>hl l (gk _ hm)
  rcases cU.mp m with e | e
  ·rw [e];exact hL _ h1
  ·refine ih (fun l hm=>?_) l e
   rcases cU.mp hm with z | z
   ·rw [z];exact hP _ _ _ (Pa h2 h0) h1
   ·exact Yi h2 l z
theorem Stl.small {room:Int} (r1:1<=room) {h:Nat} {tn ov un:Int} {ls out:Ls} {tn' ov' un':Int} (a:Stl room h tn ov un ls out tn' ov' un'):∀ l∈out,(l.length:Int)<=room:=by
 induction a with
 | nil=>exact fun _ h=>nomatch h
 | keep hl _ ih =>
  intro l m
  rcases cU.mp m with e | e
  ·rw [e];exact hl
  ·exact ih l e
 | turn _ _ ih =>
  intro l m
  rcases cU.mp m with e | e
  ·rw [e,vG];lia
  ·exact ih l e
theorem Stl.empty {room:Int} {h:Nat} {tn ov un:Int} {ls out:Ls} {tn' ov' un':Int} (a:Stl room h tn ov un ls out tn' ov' un') (e:out=[]):ls=[]:=by
 cases a with
 | nil=>rfl
 | keep _ _=>cases e
 | turn _ _=>cases e
theorem Stl.full {room:Int} (r1:1<=room) {h:Nat} {tn ov un:Int} {ls out:Ls} {tn' ov' un':Int} (a:Stl room h tn ov un ls out tn' ov' un'):Full ls->Full out:=by
 induction a with
 | nil=>exact id
 | @keep _ _ _ _ l ls out _ _ _ _ a ih =>
  intro f
  refine vH (ih (qG f)) fun e=>?_
  have:=a.empty e
  subst this
  exact f l rfl
 | @turn _ _ _ _ l ls out _ _ _ hl a ih =>
  intro f
  refine vH (ih (vH (qG (qG f)) fun _ z=>?_)) fun e=>?_
  ·have:=congrArg jG z
   rw [fZ,dh,lM] at this
   have:(_:Nat)+l.length / 2=0:=this
   lia
  ·exact absurd (a.empty e) (Uc _ _)
theorem Stl.mono {room:Int} {h:Nat} {tn ov un:Int} {ls out:Ls} {tn' ov' un':Int} (a:Stl room h tn ov un ls out tn' ov' un'):tn<=tn'/\ov<=ov'/\un<=un':=by
 induction a with
 | nil=>exact ⟨cP _,cP _,cP _⟩
 | keep _ _ ih=>exact ih
 | @turn h tn ov un _ _ _ _ _ _ _ _ ih =>
  have p:(0:Int)<2 ^ h:=Vj (by decide)
  obtain ⟨i1,i2,i3⟩:=ih
  refine ⟨by lia,?_,?_⟩
  ·split at i2 <;> lia
  ·split at i3 <;> lia
theorem Stl.pot {room:Int} (ev:room % 2=0) {h:Nat} {tn ov un:Int} {ls out:Ls} {tn' ov' un':Int} (a:Stl room h tn ov un ls out tn' ov' un'):room*(ov'+un'-ov-un)+pot h ls<=pot h out:=by
 induction a with
 | nil h tn ov un =>
  rw [show ov+un-ov-un=0 by lia,ade]
  lia
 | @keep h _ _ _ l ls out _ _ _ _ _ ih =>
  show _+((h*2 ^ h*l.length+RG.pot (h+1) ls:Nat):Int)<=((h*2 ^ h*l.length+RG.pot (h+1) out:Nat):Int)
  lia
 | @turn h tn ov un l ls out tn' ov' un' hl _ ih =>
  show _+((h*2 ^ h*l.length+RG.pot (h+1) ls:Nat):Int)<=((h*2 ^ h*(lft l).length+RG.pot (h+1) out:Nat):Int)
  have e:RG.pot (h+1) (srt (ls.headD []++pick (decide (tn % 2=1)) l)::ls.tail)=RG.pot (h+1) ls+(h+1)*2 ^ (h+1)*(l.length / 2):=by
   show (h+1)*2 ^ (h+1)*jG _+RG.pot (h+1+1) ls.tail=_
   rw [fZ,dh,lM,afb (h+1) ls,qX]
   lia
  rw [e] at ih
  have d:(if tn % 2=0 then ov+2 ^ h else ov)+(if tn % 2=0 then un else un+2 ^ h)=ov+un+2 ^ h:=by split <;> lia
  have ih2:room*(ov'+un'-(ov+un+2 ^ h))+((RG.pot (h+1) ls+(h+1)*2 ^ (h+1)*(l.length / 2):Nat):Int)<=RG.pot (h+1) out:=by
   rw [<- d]
   refine iG (Int.le_of_eq ?_) ih
   congr 2
   lia
  rw [vG]
  have m1:room*(ov'+un'-(ov+un+2 ^ h))=room*(ov'+un'-ov-un)-room*2 ^ h:=by
   rw [<- Int.mul_sub];congr 1;lia
  rw [m1] at ih2
  have key:h*2 ^ h*l.length+(2*(l.length / 2))*2 ^ h=h*2 ^ h*(l.length % 2)+(h+1)*2 ^ (h+1)*(l.length / 2):=by
   have e1:l.length=2*(l.length / 2)+l.length % 2:=by lia
   generalize l.length / 2=m at e1 ⊢
   generalize l.length % 2=c at e1 ⊢
   rw [e1,pU]
   grind
  have big:room*2 ^ h<=((2*(l.length / 2)*2 ^ h:Nat):Int):=by
   have r2:room<=((2*(l.length / 2):Nat):Int):=by lia
   have p:(0:Int)<=2 ^ h:=ac9 (by decide)
   have:=Gv r2 p
   rw [Vd]
   rw [uy]
   exact this
  have key':((h*2 ^ h*l.length:Nat):Int)+((2*(l.length / 2)*2 ^ h:Nat):Int)=((h*2 ^ h*(l.length % 2):Nat):Int)+(((h+1)*2 ^ (h+1)*(l.length / 2):Nat):Int):=by
   rw [<- Bv,<- Bv,key]
  rw [Bv,Bv]
  rw [Bv] at ih2
  lia
theorem afc:∀ (ls:Ls) (h:Nat),pot h ls<=(h+ls.length-1)*(2 ^ h*val ls)
 | [],h=>by show 0<=_;exact cB _
 | l::r,h=>by
  have ih:=afc r (h+1)
  show h*2 ^ h*l.length+pot (h+1) r<=(h+(r.length+1)-1)*(2 ^ h*(l.length+2*val r))
  rw [show h+(r.length+1)-1=h+r.length by lia]
  rw [show h+1+r.length-1=h+r.length by lia] at ih
  have e:2 ^ h*(l.length+2*val r)=2 ^ h*l.length+2 ^ (h+1)*val r:=by rw [pU];grind
  rw [e,qX]
  refine acH ?_ ih
  rw [Bl]
  exact MP _ tb_g%
theorem ZD:∀ {ls:Ls},Full ls->ls≠[]->2 ^ (ls.length-1)<=val ls
 | [],_,h=>absurd rfl h
 | [l],f,_=>by
  have:=f l rfl
  show 1<=l.length+2*0
  cases l with
  | nil=>exact absurd rfl this
  | cons a r=>show 1<=r.length+1+0;lia
 | l::m::r,f,_=>by
  have ih:=ZD (ls:=m::r) (qG f) (Uc _ _)
  show 2 ^ ((m::r).length+1-1)<=l.length+2*val (m::r)
  rw [show (m::r).length+1-1=((m::r).length-1)+1 by rw [iY];lia,pU]
  lia
theorem pB {α:Type} {ms:List α} {p:Nat} {l:α} (h:ms[p]? = some l):ms.take (p+1)=ms.take p++[l]:=by rw [vY,h];rfl
theorem fC {α:Type} {ms:List α} {p:Nat} {l:α} (h:ms[p]? = some l):ms.drop p=l::ms.drop (p+1):=by
 obtain ⟨hp,e⟩:=fQ.mp h
 rw [JK hp,e]
theorem Ro {α:Type} {ms:List α} {p:Nat} {l m:α} (h:ms[p]? = some l):(ms.set p m).take (p+1)=ms.take p++[m]:=by
 obtain ⟨hp,e⟩:=fQ.mp h
 rw [pB (l:=m) (by rw [Mt hp]),ab3 (bV _)]
theorem set_drop {α:Type} {ms:List α} {p:Nat} {m:α}:(ms.set p m).drop (p+1)=ms.drop (p+1):=by rw [TV (xK p)]
theorem zJ {α:Type} {ms:List α} {p:Nat} {l:α} (h:ms[p]? = some l):ms.set p l=ms:=by
 obtain ⟨hp,e⟩:=fQ.mp h
 rw [<- e,List.set_getElem_self]
theorem HS {t:Int} {ms:Ls} {p k:Nat} {l:List Int} (h:ms[p]? = some l) (hk:k≠0) :
  (ms.set p (if k % 2=1 then srt (l++[t]) else l)).take (p+1)++gH t ((ms.set p (if k % 2=1 then srt (l++[t]) else l)).drop (p+1)) (k / 2)=ms.take p++gH t (ms.drop p) k:=by
 rw [Ro h,set_drop,fC h,ig t _ hk,iW];rfl
theorem Yk {t:Int} {ms:Ls} {p k:Nat} (h:p=ms.length) (hk:k≠0):(ms++[[]]).take p++gH t ((ms++[[]]).drop p) k=ms.take p++gH t (ms.drop p) k:=by
 rw [h,List.take_left,acg,qT,Ud,aaG t hk]
theorem nO:∀ (xs ys:Ls),val (xs++ys)=val xs+2 ^ xs.length*val ys
 | [],ys=>by show val ys=0+1*val ys;lia
 | x::xs,ys=>by
  show x.length+2*val (xs++ys)=x.length+2*val xs+2 ^ (xs.length+1)*val ys
  rw [nO xs ys,pU,qX,xM _ 2,Bl]
  lia
structure Run (room tn ov un:Int) (ls:Ls) (q:Nat) (tn2 ov2 un2:Int) (ms:Ls):Prop where
 cont:∀ out tn' ov' un',Stl room q tn2 ov2 un2 (ms.drop q) out tn' ov' un'->Stl room 0 tn ov un ls (ms.take q++out) tn' ov' un'
 vl:val (ms.take q)+2 ^ q*val (ms.drop q)=val ls
 le:q<=ms.length
 b1:∀ l∈ms,l.length<=400
 b2:∀ l∈ms.drop (q+1),l.length<=200
theorem Run.start {room tn ov un:Int} {ls:Ls} (h:∀ l∈ls,l.length<=200):Run room tn ov un ls 0 tn ov un ls :=
 ⟨fun _ _ _ _ h=>h,by show 0+1*_=_;rw [ach];lia,cB _,fun l hl=>by have:=h l hl;lia,fun l hl=>h l (FZ hl)⟩
theorem Run.done {room tn ov un tn2 ov2 un2:Int} {ls ms:Ls} {q:Nat} (r:Run room tn ov un ls q tn2 ov2 un2 ms) (h:ms.length<=q):Stl room 0 tn ov un ls ms tn2 ov2 un2:=by
 have:=r.cont [] tn2 ov2 un2 (by rw [TF h];exact .nil _ _ _ _)
 rw [xg,oO h] at this
 exact this
theorem Run.keep {room tn ov un tn2 ov2 un2:Int} {ls ms:Ls} {q:Nat} {l:List Int} (r:Run room tn ov un ls q tn2 ov2 un2 ms) (h:ms[q]? = some l) (hl:(l.length:Int)<=room):Run room tn ov un ls (q+1) tn2 ov2 un2 ms:=by
 obtain ⟨hp,_⟩:=fQ.mp h
 refine ⟨fun out tn' ov' un' s=>?_,?_,hp,r.b1,fun l hl=>r.b2 l (by rw [show q+1+1=1+(q+1) by lia,Nat.add_comm 1] at hl;exact FZ (i:=1) (by rw [acf];exact hl))⟩
 ·have:=r.cont (l::out) tn' ov' un' (by rw [fC h];exact .keep hl s)
  rw [pB h,iW];exact this
 ·have:=r.vl
  rw [fC h] at this
  rw [pB h,nO,gJ,M5 tb_g%,<- this,pU]
  show _+2 ^ q*(l.length+2*0)+_=_+2 ^ q*(l.length+2*_)
  rw [qX,qX,Bl]
  lia
theorem Run.big {room tn ov un tn2 ov2 un2:Int} {ls ms:Ls} {q:Nat} {l:List Int} (r:Run room tn ov un ls q tn2 ov2 un2 ms) (h:ms[q]? = some l) (hl:l≠[]):2 ^ q<=val ls:=by
 have:=r.vl
 rw [fC h] at this
 have e:val (l::ms.drop (q+1))=l.length+2*val (ms.drop (q+1)):=rfl
 have l1:1<=l.length:=by
  cases l with
  | nil=>exact absurd rfl hl
  | cons a b=>show 1<=b.length+1;lia
 have m:=acC (2 ^ q) (show 1<=val (l::ms.drop (q+1)) by lia)
 lia
noncomputable def More (q:Nat) (ms ms':Ls) (nx:List Int):Prop:=(ms'=ms/\ms[q+1]? = some nx)\/(q+1=ms.length/\ms'=ms++[[]]/\nx=[])
theorem More.at {q:Nat} {ms ms':Ls} {nx l:List Int} (m:More q ms ms' nx) (h:ms[q]? = some l):ms'[q]? = some l/\ms'[q+1]? = some nx/\ms'.take q=ms.take q/\(ms.drop (q+1)).headD []=nx/\(ms.drop (q+1)).tail=ms'.drop (q+2):=by
 rcases m with ⟨rfl,e⟩ | ⟨e,rfl,rfl⟩
 ·refine ⟨h,e,rfl,?_,?_⟩
  ·rw [fC e];rfl
  ·rw [fC e];rfl
 ·obtain ⟨hp,_⟩:=fQ.mp h
  refine ⟨by rw [FN hp];exact h,by rw [e,yL (bV _),Uw];rfl,List.take_append_of_le_length tb_g%,?_,?_⟩
  ·rw [e,Ud];rfl
  ·rw [e,Ud,TF (by rw [dh];show _+1<=_;lia)];rfl
theorem Run.turn {room tn ov un tn2 ov2 un2:Int} {ls ms ms':Ls} {q:Nat} {l nx:List Int} (r:Run room tn ov un ls q tn2 ov2 un2 ms) (m:More q ms ms' nx) (h:ms[q]? = some l) (hl:room<(l.length:Int)) :
  Run room tn ov un ls (q+1) (tn2+1) (if tn2 % 2=0 then ov2+2 ^ q else ov2) (if tn2 % 2=0 then un2 else un2+2 ^ q) ((ms'.set q (lft l)).set (q+1) (srt (nx++pick (decide (tn2 % 2=1)) l))):=by
 obtain ⟨h1,h2,h3,h4,h5⟩:=m.at h
 obtain ⟨p1,_⟩:=fQ.mp h1
 obtain ⟨p2,_⟩:=fQ.mp h2
 have e0:(ms'.set q (lft l))[q+1]? = some nx:=by rw [Bg tb_g%];exact h2
 have e1:((ms'.set q (lft l)).set (q+1) (srt (nx++pick (decide (tn2 % 2=1)) l))).take (q+1)=ms.take q++[lft l]:=by
  rw [ab3 (bV _),Ro h1,h3]
 have e2:((ms'.set q (lft l)).set (q+1) (srt (nx++pick (decide (tn2 % 2=1)) l))).drop (q+1)=srt (nx++pick (decide (tn2 % 2=1)) l)::(ms.drop (q+1)).tail:=by
  rw [fC (l:=srt (nx++pick (decide (tn2 % 2=1)) l)) (by rw [Mt (by rw [jU];exact p2)]),set_drop,TV tb_g%,h5]
 have hm:∀ k∈ms',k.length<=400:=by
  rcases m with ⟨rfl,_⟩ | ⟨_,rfl,_⟩
  ·exact r.b1
  ·intro k hk
   rcases dg.mp hk with z | z
   ·exact r.b1 k z
   ·rw [d8.mp z];exact cB _
 have nx2:nx.length<=200:=by
  rcases m with ⟨rfl,e⟩ | ⟨_,_,rfl⟩
  ·exact r.b2 nx (by rw [fC e];exact cZ)
  ·exact cB _
 have ll:l.length<=400:=r.b1 l (List.mem_of_getElem? h)
 refine ⟨fun out tn' ov' un' s=>?_,?_,by rw [jU,jU];lia,fun k hk=>?_,fun k hk=>?_⟩
 ·rw [e1,iW]
  refine r.cont (lft l::out) tn' ov' un' ?_
  rw [fC h]
  refine .turn hl ?_
  rw [h4]
  rw [e2] at s
  exact s
 ·have v:=r.vl
  rw [fC h] at v
  rw [e1,e2,nO,gJ,M5 (by have:=r.le;lia),<- v,pU]
  show _+2 ^ q*((lft l).length+2*0)+2 ^ q*2*((srt _).length+2*val _)=_+2 ^ q*(l.length+2*val _)
  rw [fZ,dh,lM,vG,Yh (ms.drop (q+1)),h4,Bl,Gp,<- qX]
  congr 2
  lia
 ·rcases vW hk with z | z
  ·rcases vW z with z | z
   ·exact hm k z
   ·rw [z,vG];lia
  ·rw [z,fZ,dh,lM];lia
 ·rw [set_drop,TV tb_g%,<- h5] at hk
  exact r.b2 k (ab0 hk)
theorem Kv (t:Int):∀ (n w:Nat) (ls:Ls),w<2 ^ n->(gH t ls w).length<=max ls.length n
 | 0,w,ls,h=>by
  have:w=0:=by rw [Ux] at h;lia
  rw [this,gP];lia
 | n+1,w,ls,h=>by
  by_cases hw:w=0
  ·rw [hw,gP];lia
  ·rw [ig t ls hw,iY]
   have:=Kv t n (w / 2) ls.tail (by rw [pU] at h;lia)
   rw [List.length_tail] at this
   lia
theorem afd (t:Int) {b:Nat}:∀ (w:Nat) (ls:Ls),(∀ l∈ls,l.length<=b)->∀ l∈gH t ls w,l.length<=b+1:=by
 intro w
 induction w using Gn with
 | _ w ih =>
  intro ls hl
  by_cases hw:w=0
  ·rw [hw,gP];exact fun l h=>acE (hl l h)
  ·rw [ig t ls hw]
   intro l m
   have hd:=Pa (P:=fun l=>l.length<=b) hl (cB _)
   rcases cU.mp m with e | e
   ·rw [e]
    split
    ·rw [fZ,dh];show _+1<=_;lia
    ·exact acE hd
   ·exact ih (w / 2) tb_g% ls.tail (Yi hl) l e
theorem afe (t:Int) (w:Nat) (ls:Ls) (h:∀ l∈ls,Sd l):∀ l∈gH t ls w,Sd l:=aaI (P:=Sd) t List.Pairwise.nil (fun _ _=>rO _) w ls h
theorem Stl.mem {P:Int->Prop} {room:Int} {h:Nat} {tn ov un:Int} {ls out:Ls} {tn' ov' un':Int} (a:Stl room h tn ov un ls out tn' ov' un'):(∀ l∈ls,∀ z∈l,P z)->∀ l∈out,∀ z∈l,P z :=
 a.all (P:=fun l=>∀ z∈l,P z) (fun _ h=>nomatch h) (fun l hl z hz=>hl z (ZC hz)) fun l m o hl hm z hz=>by
  rcases dg.mp (pC.mp hz) with e | e
  ·exact hl z e
  ·exact hm z (Rj e)
theorem Stl.sd {room:Int} {h:Nat} {tn ov un:Int} {ls out:Ls} {tn' ov' un':Int} (a:Stl room h tn ov un ls out tn' ov' un'):(∀ l∈ls,Sd l)->∀ l∈out,Sd l :=
 a.all (P:=Sd) List.Pairwise.nil (fun _=>afa) fun _ _ _ _ _=>rO _
structure Good (r T ov un:Int) (ls:Ls):Prop where
 r2:2<=r
 r64:r<=64
 ev:r % 2=0
 vl:(val ls:Int)=T
 sd:∀ l∈ls,Sd l
 sm:∀ l∈ls,(l.length:Int)<=r
 fl:Full ls
 pt:(ov+un)*r<=pot 0 ls
 ov0:0<=ov
 un0:0<=un
theorem Good.new {r:Int} (h1:2<=r) (h2:r<=64) (h3:r % 2=0):Good r 0 0 0 [] :=
 ⟨h1,h2,h3,rfl,fun _ h=>(nomatch h),fun _ h=>(nomatch h),fun _ h=>(nomatch h),by show (0+0)*r<=0;lia,cP _,cP _⟩
theorem Good.add {r T ov un tn tn' ov' un' t w:Int} {ls out:Ls} (g:Good r T ov un ls) (w1:1<=w) (s:Stl r 0 tn ov un (gH t ls w.toNat) out tn' ov' un'):Good r (T+w) ov' un' out/\out≠[]:=by
 have h1:=g.r2
 have mo:=s.mono
 have o0:=g.ov0
 have u0:=g.un0
 refine ⟨⟨g.r2,g.r64,g.ev,?_,s.sd (afe t _ _ g.sd),s.small tb_g%,s.full tb_g% (Yj t _ _ g.fl),?_,by lia,by lia⟩,fun e=>?_⟩
 ·rw [s.val,Ku];have:=g.vl;lia
 ·have p1:=s.pot g.ev
  have p2:=aaH t w.toNat 0 ls
  have p3:=g.pt
  have e:r*(ov'+un'-ov-un)=(ov'+un')*r-(ov+un)*r:=by grind
  lia
 ·exact Rm tb_g% (s.empty e)
theorem Good.bits {r T ov un:Int} {ls:Ls} (g:Good r T ov un ls) (h:ls≠[]):(2:Int) ^ (ls.length-1)<=T:=by
 have:=ZD g.fl h
 have e:=g.vl
 have c:((2 ^ (ls.length-1):Nat):Int)=(2:Int) ^ (ls.length-1):=by rw [uy];rfl
 lia
theorem Good.near {r T ov un:Int} {ls:Ls} (g:Good r T ov un ls) (h:ls≠[]):(ov+un)*r<=T*((ls.length:Int)-1):=by
 have p:=afc ls 0
 rw [Ux,acJ,uo] at p
 have q:=g.pt
 have l1:1<=ls.length:=by
  cases ls with
  | nil=>exact absurd rfl h
  | cons a b=>show 1<=b.length+1;lia
 have c:((ls.length-1)*val ls:Nat)=(((ls.length:Int)-1)*(val ls:Int)):=by rw [Vd,Int.natCast_sub l1];rfl
 rw [g.vl] at c
 rw [Vf T]
 lia
theorem Rp {ls:Ls} {i:Nat} {l:List Int} (h:ls[i]? = some l):val (ls.take (i+1))=val (ls.take i)+l.length*2 ^ i:=by
 obtain ⟨hi,_⟩:=fQ.mp h
 rw [pB h,nO,gJ,M5 tb_g%]
 show _+2 ^ i*(l.length+2*0)=_
 rw [M7,Bm,xM]
theorem Good.len {r T ov un:Int} {ls:Ls} (g:Good r T ov un ls) {n:Nat} (h:T<2 ^ n):ls.length<=n:=by
 by_cases e:ls=[]
 ·rw [e];exact cB _
 ·have:=g.bits e
  rcases jW (ls.length-1) n with z | z
  ·lia
  ·have p:=xJ (show 0<2 by decide) z
   have c:((2 ^ n:Nat):Int)=(2:Int) ^ n:=by rw [uy];rfl
   have c2:((2 ^ (ls.length-1):Nat):Int)=(2:Int) ^ (ls.length-1):=by rw [uy];rfl
   lia
theorem Good.small {r T ov un:Int} {ls:Ls} (g:Good r T ov un ls):∀ l∈ls,l.length<=64:=fun l h=>by have:=g.sm l h;have:=g.r64;lia
noncomputable def tw (x:Int):List (Int × Int)->Int
 | []=>0
 | p::r=>(if p.1<=x then p.2 else 0)+tw x r
noncomputable def Rk (T ov un:Int) (ls:Ls) (rs:List (Int × Int)):Prop:=∀ x,0<=tw x rs/\tw x rs<=T/\(nr x ls:Int)-ov<=tw x rs/\tw x rs<=nr x ls+un
noncomputable def jn (l m:Ls) (i:Nat):List Int:=srt (l.getD i []++m.getD i [])
noncomputable def tE (n:Nat) (l m:Ls):Ls:=(mZ n).map (jn l m)
noncomputable def join (l m:Ls):Ls:=tE (max l.length m.length) l m
theorem yq (n:Nat) (l m:Ls):tE (n+1) l m=tE n l m++[jn l m n]:=by
 unfold tE
 rw [List.range_succ,dN];rfl
theorem vI (n:Nat) (l m:Ls):(tE n l m).length=n:=by
 unfold tE
 rw [bA,Gb]
theorem wj (l:Ls) (n:Nat):val (l.take (n+1))=val (l.take n)+(l.getD n []).length*2 ^ n:=by
 rcases jW n l.length with h | h
 ·rw [Rp (gR h),yM,gR h];rfl
 ·rw [oO tb_g%,oO h,yM,yN h]
  show _=_+0*_
  rw [Nat.zero_mul];rfl
theorem yt:∀ (xs ys:Ls) (h:Nat),pot h (xs++ys)=pot h xs+pot (h+xs.length) ys
 | [],ys,h=>by show pot h ys=0+pot (h+0) ys;rw [uo,Bm]
 | x::xs,ys,h=>by
  show h*2 ^ h*x.length+pot (h+1) (xs++ys)=h*2 ^ h*x.length+pot (h+1) xs+pot (h+(xs.length+1)) ys
  rw [yt xs ys (h+1),show h+1+xs.length=h+(xs.length+1) by lia,Gp]
theorem wu (l:Ls) (n:Nat):pot 0 (l.take (n+1))=pot 0 (l.take n)+n*2 ^ n*(l.getD n []).length:=by
 rcases jW n l.length with h | h
 ·rw [pB (gR h),yt,gJ,M5 tb_g%,uo,yM,gR h]
  rfl
 ·rw [oO tb_g%,oO h,yM,yN h]
  show _=_+_*0
  rw [M7];rfl
theorem HW (l m:Ls) (i:Nat):(jn l m i).length=(l.getD i []).length+(m.getD i []).length:=by
 unfold jn;rw [fZ,dh]
theorem Kw (l m:Ls):∀ n,val (tE n l m)=val (l.take n)+val (m.take n)
 | 0=>rfl
 | n+1=>by
  rw [yq,nO,vI,Kw l m n,wj,wj]
  show _+2 ^ n*((jn l m n).length+2*0)=_
  rw [M7,Bm,HW,qX,xM (2 ^ n),xM (2 ^ n)]
  lia
theorem Kz (l m:Ls):∀ n,pot 0 (tE n l m)=pot 0 (l.take n)+pot 0 (m.take n)
 | 0=>rfl
 | n+1=>by
  rw [yq,yt,vI,Kz l m n,wu,wu,uo]
  show _+(n*2 ^ n*(jn l m n).length+0)=_
  rw [Bm,HW,qX]
  lia
theorem Rq (l m:Ls):val (join l m)=val l+val m:=by
 unfold join
 rw [Kw,oO tb_g%,oO tb_g%]
theorem afg (l m:Ls):pot 0 (join l m)=pot 0 l+pot 0 m:=by
 unfold join
 rw [Kz,oO tb_g%,oO tb_g%]
theorem HX (l m:Ls):(join l m).length=max l.length m.length:=vI _ _ _
theorem Rr {P:List Int->Prop} {ls:Ls} (h:∀ l∈ls,P l) (h0:P []) (i:Nat):P (ls.getD i []):=by
 rcases jW i ls.length with z | z
 ·rw [yM,gR z];exact h _ (wZ z)
 ·rw [yM,yN z];exact h0
theorem Rt {P:List Int->Prop} {l m:Ls} (h:∀ i,P (jn l m i)):∀ k∈join l m,P k:=by
 intro k hk
 unfold join tE at hk
 obtain ⟨i,_,rfl⟩:=jV.mp hk
 exact h i
theorem agV (l m:Ls):∀ k∈join l m,Sd k:=Rt fun _=>rO _
theorem aaK {l m:Ls} (hl:Full l) (hm:Full m):Full (join l m):=by
 intro k hk
 rw [List.getLast?_eq_getElem?,HX] at hk
 have hp:=(fQ.mp hk).1
 rw [HX] at hp
 unfold join tE at hk
 rw [iB,List.getElem?_range tb_g%] at hk
 have e:jn l m (max l.length m.length-1)=k:=dB hk
 intro z
 have hz:(jn l m (max l.length m.length-1)).length=0:=by rw [e,z];rfl
 rw [HW] at hz
 have one:∀ {ls:Ls},Full ls->max l.length m.length=ls.length->(ls.getD (max l.length m.length-1) []).length=0->False:=by
  intro ls f e0 h0
  have hi:ls.length-1<ls.length:=by lia
  have:=f ls[ls.length-1] (by rw [List.getLast?_eq_getElem?,gR hi])
  rw [e0,yM,gR hi] at h0
  exact this (vX.mp h0)
 rcases Nat.le_total l.length m.length with a | a
 ·exact one hm tb_g% tb_g%
 ·exact one hl tb_g% tb_g%
theorem Good.aeM {r T1 ov1 un1 T2 ov2 un2 tn tn' ov' un':Int} {l m out:Ls} (g:Good r T1 ov1 un1 l) (h:Good r T2 ov2 un2 m) (s:Stl r 0 tn (ov1+ov2) (un1+un2) (join l m) out tn' ov' un'):Good r (T1+T2) ov' un' out:=by
 have h1:=g.r2
 have mo:=s.mono
 have a1:=g.ov0
 have a2:=g.un0
 have a3:=h.ov0
 have a4:=h.un0
 refine ⟨g.r2,g.r64,g.ev,?_,s.sd (agV l m),s.small tb_g%,s.full tb_g% (aaK g.fl h.fl),?_,by lia,by lia⟩
 ·rw [s.val,Rq];have:=g.vl;have:=h.vl;lia
 ·have p1:=s.pot g.ev
  have p2:=afg l m
  have p3:=g.pt
  have p4:=h.pt
  have e:r*(ov'+un'-(ov1+ov2)-(un1+un2))=(ov'+un')*r-(ov1+un1)*r-(ov2+un2)*r:=by grind
  lia
theorem Good.ahW {r T1 ov1 un1 T2 ov2 un2:Int} {l m:Ls} (g:Good r T1 ov1 un1 l) (h:Good r T2 ov2 un2 m):∀ k∈join l m,k.length<=128:=Rt (P:=fun k=>k.length<=128) fun i=>by
 rw [HW]
 have a:=Rr (P:=fun k=>k.length<=64) g.small (cB _) i
 have b:=Rr (P:=fun k=>k.length<=64) h.small (cB _) i
 lia
end RG
set_option autoImplicit false
namespace WN
structure Box where
 f:Int
 l:Int
 s:Int
noncomputable def sum (bs:List Box):Int:=(bs.map (·.s)).sum
theorem sum_nil:sum []=0:=rfl
theorem sum_cons (b:Box) (r:List Box):sum (b::r)=b.s+sum r:=by unfold sum;rw [f9,lR]
theorem sum_append (a b:List Box):sum (a++b)=sum a+sum b:=by unfold sum;rw [dN,Ug]
noncomputable def settle (room:Int):Int->Box->List Box->List Box
 | _,b,[]=>[b]
 | S,b,o::os=>if (b.s+o.s)*room<=S then settle room S ⟨o.f,b.l,b.s+o.s⟩ os else b::settle room (S+b.s) o os
theorem Yl (room S:Int) (b:Box):settle room S b []=[b]:=rfl
theorem pD (room S:Int) (b o:Box) (os:List Box):settle room S b (o::os)=if (b.s+o.s)*room<=S then settle room S ⟨o.f,b.l,b.s+o.s⟩ os else b::settle room (S+b.s) o os:=rfl
noncomputable def settled (room:Int):List Box->List Box
 | []=>[]
 | b::os=>settle room 0 b os
noncomputable def Multi (room:Int):Int->List Box->Prop
 | _,[]=>True
 | S,b::os=>(b.f≠b.l->b.s*room<=S)/\Multi room (S+b.s) os
noncomputable def wz (room:Int):Int->List Box->Prop
 | _,[]=>True
 | _,[_]=>True
 | S,b::o::os=>S<(b.s+o.s)*room/\wz room (S+b.s) (o::os)
theorem Multi.mono {room:Int}:∀ {bs:List Box} {S S':Int},S<=S'->Multi room S bs->Multi room S' bs
 | [],_,_,_,_=>trivial
 | b::os,S,S',h,m=>⟨fun z=>iG (m.1 z) h,Multi.mono tb_g% m.2⟩
theorem Multi.take {room:Int}:∀ {bs:List Box} {S:Int} (n:Nat),Multi room S bs->Multi room S (bs.take n)
 | [],_,n,_=>by rw [Mw];trivial
 | b::os,S,0,m=>trivial
 | b::os,S,n+1,m=>⟨m.1,Multi.take n m.2⟩
theorem rP (room:Int):∀ (os:List Box) (S:Int) (b:Box),(b.f≠b.l->b.s*room<=S)->Multi room (S+b.s) os->Multi room S (settle room S b os)
 | [],S,b,h,_=>⟨h,trivial⟩
 | o::os,S,b,h,m=>by
  rw [pD]
  split
  ·rename_i c
   exact rP room os S _ (fun _=>c) (by show Multi room (S+(b.s+o.s)) os;rw [<- Ve];exact m.2)
  ·exact ⟨h,rP room os (S+b.s) o m.1 m.2⟩
theorem Ju {room:Int} {bs:List Box} (h:Multi room 0 bs):Multi room 0 (settled room bs):=by
 cases bs with
 | nil=>trivial
 | cons b os=>exact rP room os 0 b h.1 h.2
theorem rQ {room:Int} (hr:0<=room):∀ (os:List Box) (S:Int) (b:Box),0<=b.s->(∀ x∈os,0<=x.s)->(∃ h t,settle room S b os=h::t/\b.s<=h.s)/\wz room S (settle room S b os)
 | [],S,b,_,_=>⟨⟨b,[],rfl,cP _⟩,trivial⟩
 | o::os,S,b,hb,ho=>by
  have h0:=ho o cZ
  rw [pD]
  split
  ·obtain ⟨⟨h,t,e,le⟩,n⟩:=rQ hr os S ⟨o.f,b.l,b.s+o.s⟩ (by show 0<=b.s+o.s;lia) fun x m=>ho x (gk _ m)
   have le':b.s+o.s<=h.s:=le
   exact ⟨⟨h,t,e,by lia⟩,n⟩
  ·rename_i c
   obtain ⟨⟨h,t,e,le⟩,n⟩:=rQ hr os (S+b.s) o h0 fun x m=>ho x (gk _ m)
   refine ⟨⟨b,_,rfl,cP _⟩,?_⟩
   rw [e] at n ⊢
   refine ⟨?_,n⟩
   have:(b.s+o.s)*room<=(b.s+h.s)*room:=Gv tb_g% hr
   lia
theorem Jv {room:Int} (hr:0<=room) {bs:List Box} (h:∀ x∈bs,0<=x.s):wz room 0 (settled room bs):=by
 cases bs with
 | nil=>trivial
 | cons b os=>exact (rQ hr os 0 b (h b cZ) fun x m=>h x (gk _ m)).2
structure Sums (P:Int->Int):Prop where
 zero:∀ n,n<=0->P n=0
 mono:∀ a b,a<=b->P a<=P b
noncomputable def Chain (P:Int->Int) (edge:Int):Int->List Box->Prop
 | u,[]=>edge<=u->P u=P edge
 | u,b::os=>1<=b.f/\b.f<=b.l/\b.l<=u/\P u=P b.l/\b.s=P b.l-P (b.f-1)/\P (b.f-1)<P b.f/\P (b.l-1)<P b.l/\Chain P edge (b.f-1) os
theorem Chain.pos {P:Int->Int} (hP:Sums P) {edge:Int}:∀ {bs:List Box} {u:Int},Chain P edge u bs->∀ b∈bs,1<=b.s
 | b::os,u,⟨_,h2,_,_,h5,h6,_,r⟩,x,m=>by
  rcases cU.mp m with rfl | m
  ·have:=hP.mono x.f x.l h2;lia
  ·exact Chain.pos hP r x m
theorem Chain.below {P:Int->Int} {edge:Int}:∀ {bs:List Box} {u:Int},Chain P edge u bs->∀ b∈bs,1<=b.f/\b.f<=b.l/\b.l<=u
 | b::os,u,⟨h1,h2,h3,_,_,_,_,r⟩,x,m=>by
  rcases cU.mp m with rfl | m
  ·exact ⟨h1,h2,h3⟩
  ·obtain ⟨k1,k2,k3⟩:=Chain.below r x m;exact ⟨k1,k2,by lia⟩
theorem Chain.edge {P:Int->Int} (hP:Sums P) {edge nP:Int} (he:edge<=nP):∀ {bs:List Box} {u:Int},Chain P edge u bs->Chain P nP u (bs.filter fun b=>decide (nP<b.l))
 | [],u,h=>fun hu=>by
  have h1:=h (iG he hu)
  have h2:=hP.mono edge nP he
  have h3:=hP.mono nP u hu
  lia
 | b::os,u,⟨h1,h2,h3,h4,h5,h6,h7,r⟩=>by
  by_cases c:nP<b.l
  ·rw [Bc (by simpa using c)]
   exact ⟨h1,h2,h3,h4,h5,h6,h7,Chain.edge hP he r⟩
  ·rw [FQ (by simpa using c)]
   have e:os.filter (fun b=>decide (nP<b.l))=[]:=by
    rw [CT]
    intro x m
    obtain ⟨_,_,k3⟩:=Chain.below r x m
    simp;lia
   rw [e]
   intro hu
   have k2:=hP.mono b.l nP tb_g%
   have k3:=hP.mono nP u hu
   lia
theorem Chain.Dk {P:Int->Int} {edge nP:Int}:∀ {bs:List Box} {u:Int},Chain P edge u bs->∃ n,(bs.filter fun b=>decide (nP<b.l))=bs.take n
 | [],_,_=>⟨0,rfl⟩
 | b::os,u,⟨_,h2,_,_,_,_,_,r⟩=>by
  by_cases c:nP<b.l
  ·rw [Bc (by simpa using c)]
   obtain ⟨n,e⟩:=Chain.Dk (nP:=nP) r
   exact ⟨n+1,by rw [e];rfl⟩
  ·rw [FQ (by simpa using c)]
   refine ⟨0,?_⟩
   rw [Uh,CT]
   intro x m
   obtain ⟨_,_,k3⟩:=Chain.below r x m
   simp;lia
theorem Chain.join {P:Int->Int} {edge u:Int} {b o:Box} {os:List Box} (h:Chain P edge u (b::o::os)):Chain P edge u (⟨o.f,b.l,b.s+o.s⟩::os):=by
 obtain ⟨h1,h2,h3,h4,h5,h6,h7,k1,k2,k3,k4,k5,k6,k7,r⟩:=h
 refine ⟨k1,?_,h3,h4,?_,k6,h7,r⟩
 ·show o.f<=b.l;lia
 ·show b.s+o.s=P b.l-P (o.f-1);lia
theorem Chain.settle {P:Int->Int} {edge room:Int}:∀ {os:List Box} {S u:Int} {b:Box},Chain P edge u (b::os)->Chain P edge u (settle room S b os)
 | [],S,u,b,h=>h
 | o::os,S,u,b,h=>by
  rw [pD]
  split
  ·exact Chain.settle h.join
  ·obtain ⟨h1,h2,h3,h4,h5,h6,h7,r⟩:=h
   exact ⟨h1,h2,h3,h4,h5,h6,h7,Chain.settle r⟩
theorem Chain.settled {P:Int->Int} {edge room:Int} {bs:List Box} {u:Int} (h:Chain P edge u bs):Chain P edge u (settled room bs):=by
 cases bs with
 | nil=>exact h
 | cons b os=>exact Chain.settle h
noncomputable def low (e:Int) (bs:List Box):Int:=sum (bs.filter fun b=>decide (e<b.f))
noncomputable def cut (e:Int) (bs:List Box):Int:=sum (bs.filter fun b=>decide (b.f<=e/\e<b.l))
theorem afh {P:Int->Int} {edge e:Int}:∀ {bs:List Box} {u:Int},Chain P edge u bs->u<=e->low e bs=0/\cut e bs=0:=by
 intro bs u h hu
 have k:=Chain.below h
 constructor
 ·unfold low
  rw [CT.mpr (fun x m=>by obtain ⟨_,_,_⟩:=k x m;simp;lia)];rfl
 ·unfold cut
  rw [CT.mpr (fun x m=>by obtain ⟨_,_,_⟩:=k x m;simp;lia)];rfl
theorem Chain.near {P:Int->Int} {edge e room:Int} (hr:0<=room):∀ {bs:List Box} {u S:Int},Chain P edge u bs->Multi room S bs->cut e bs*room<=S+low e bs\/cut e bs=0
 | [],u,S,_,_=>.inr rfl
 | b::os,u,S,h,m=>by
  obtain ⟨h1,h2,h3,h4,h5,h6,h7,r⟩:=h
  by_cases c1:e<b.f
  ·have e1:low e (b::os)=b.s+low e os:=by unfold low;rw [Bc (by simpa using c1),sum_cons]
   have e2:cut e (b::os)=cut e os:=by unfold cut;rw [FQ (by simp;lia)]
   rw [e1,e2]
   rcases Chain.near (e:=e) hr r m.2 with z | z
   ·exact .inl tb_g%
   ·exact .inr z
  ·obtain ⟨k1,k2⟩:=afh r (e:=e) tb_g%
   have e1:low e (b::os)=low e os:=by unfold low;rw [FQ (by simpa using c1)]
   by_cases c2:e<b.l
   ·have e2:cut e (b::os)=b.s+cut e os:=by unfold cut;rw [Bc (by simp;lia),sum_cons]
    refine .inl ?_
    rw [e1,e2,k1,k2]
    have:=m.1 tb_g%
    simpa using this
   ·have e2:cut e (b::os)=cut e os:=by unfold cut;rw [FQ (by simp;lia)]
    exact .inr (by rw [e2,k2])
theorem jh {a:Int} (h:0<a) (n:Nat):0<a ^ n:=Vj h
theorem grown {room:Int} (hr:1<=room):∀ (q:Nat) {bs:List Box} {S:Int},1<=S->wz room S bs->bs.length=2*q->S*(room+1) ^ q<=(S+sum bs)*room ^ q/\(0<q->S*(room+1) ^ q<(S+sum bs)*room ^ q)
 | 0,bs,S,h,n,l=>by
  have:bs=[]:=vX.mp tb_g%
  subst this
  refine ⟨?_,fun z=>absurd z (oU _)⟩
  rw [sum_nil];simp
 | q+1,bs,S,h,n,l=>by
  match bs,n,l with
  | b::o::os,n,l =>
   have l':os.length=2*q:=by simp only [iY] at l;lia
   obtain ⟨n1,n2⟩:=n
   have n3:wz room (S+b.s+o.s) os:=by
    cases os with
    | nil=>trivial
    | cons c cs=>exact n2.2
   have hb:S*(room+1)+1<=(S+b.s+o.s)*room:=by
    rw [Vi,Vg,Ve S b.s o.s,Vh];lia
   have S0:1<=S+b.s+o.s:=by
    by_cases c:1<=S+b.s+o.s
    ·exact c
    ·have:(S+b.s+o.s)*room<=0:=Int.mul_nonpos_of_nonpos_of_nonneg tb_g% tb_g%
     have:0<=S*(room+1):=Int.mul_nonneg tb_g% tb_g%
     lia
   obtain ⟨g1,_⟩:=grown hr q S0 n3 l'
   have p0:=jh (show (0:Int)<room+1 by lia) q
   have p1:=jh (show (0:Int)<room by lia) q
   have strict:S*(room+1) ^ (q+1)<(S+sum (b::o::os))*room ^ (q+1):=by
    rw [sum_cons,sum_cons,pY,pY]
    have e1:S*((room+1) ^ q*(room+1))=S*(room+1)*(room+1) ^ q:=by rw [Vf ((room+1) ^ q),xQ]
    have e2:(S+(b.s+(o.s+sum os)))*(room ^ q*room)=(S+b.s+o.s+sum os)*room ^ q*room:=by rw [<- xQ];congr 2;lia
    rw [e1,e2]
    have k1:(S*(room+1)+1)*(room+1) ^ q<=(S+b.s+o.s)*room*(room+1) ^ q:=Gv hb tb_g%
    have k2:(S+b.s+o.s)*(room+1) ^ q*room<=(S+b.s+o.s+sum os)*room ^ q*room:=Gv g1 tb_g%
    have e3:(S+b.s+o.s)*room*(room+1) ^ q=(S+b.s+o.s)*(room+1) ^ q*room:=by rw [ac6]
    rw [Vh,adh] at k1
    lia
   exact ⟨oW strict,fun _=>strict⟩
theorem few {room:Int} (hr:1<=room) {bs:List Box} (pos:∀ b∈bs,1<=b.s) (n:wz room 0 bs):∀ p:Nat,2+2*p<bs.length->(room+1) ^ (p+1)<sum bs*room ^ (p+1):=by
 have shrink:∀ (k:Nat) {bs:List Box} {S:Int},wz room S bs->wz room S (bs.take k):=by
  intro k bs
  induction bs generalizing k with
  | nil=>intro S _;rw [Mw];trivial
  | cons b r ih =>
   intro S h
   cases k with
   | zero=>trivial
   | succ k =>
    cases r with
    | nil=>rw [TX,Mw];trivial
    | cons o os =>
     cases k with
     | zero=>rw [TX,Uh];trivial
     | succ k=>exact ⟨h.1,ih (k+1) h.2⟩
 have agW:∀ (k:Nat) {bs:List Box},(∀ b∈bs,1<=b.s)->sum (bs.take k)<=sum bs:=by
  intro k bs
  induction bs generalizing k with
  | nil=>intro _;rw [Mw];exact cP _
  | cons b r ih =>
   intro h
   cases k with
   | zero =>
    have:∀ {l:List Box},(∀ b∈l,1<=b.s)->0<=sum l:=fun {l}=>by
     induction l with
     | nil=>intro _;exact cP _
     | cons c cs ih=>intro h;rw [sum_cons];have:=h c cZ;have:=ih fun x m=>h x (gk _ m);lia
    rw [Uh];exact this h
   | succ k=>rw [TX,sum_cons,sum_cons];have:=ih k fun x m=>h x (gk _ m);lia
 intro p hl
 match bs,pos,n,hl with
 | b::r,pos,n,hl =>
  have lr:2*(p+1)<=r.length:=by simp only [iY] at hl;lia
  have hb:=pos b cZ
  have n2:wz room b.s (r.take (2*(p+1))):=by
   refine shrink _ ?_
   cases r with
   | nil=>trivial
   | cons o os=>have:=n.2;rw [xR] at this;exact this
  obtain ⟨_,g⟩:=grown hr (p+1) hb n2 (by rw [gJ];lia)
  have g':=g (Nat.succ_pos _)
  have s1:=agW (2*(p+1)) (bs:=r) fun x m=>pos x (gk _ m)
  have p0:=jh (show (0:Int)<room+1 by lia) (p+1)
  have p1:=jh (show (0:Int)<room by lia) (p+1)
  have k1:1*(room+1) ^ (p+1)<=b.s*(room+1) ^ (p+1):=Gv hb tb_g%
  have k2:(b.s+sum (r.take (2*(p+1))))*room ^ (p+1)<=(b.s+sum r)*room ^ (p+1):=Gv tb_g% tb_g%
  rw [sum_cons]
  lia
noncomputable abbrev Rw:=Int × Int
noncomputable def wt (rows:List Rw):Int:=(rows.map (·.2)).sum
theorem aj2:wt []=0:=rfl
theorem ZF (r:Rw) (rs:List Rw):wt (r::rs)=r.2+wt rs:=by unfold wt;rw [f9,lR]
theorem Cu (a b:List Rw):wt (a++b)=wt a+wt b:=by unfold wt;rw [dN,Ug]
noncomputable def P (rows:List Rw) (n:Int):Int:=wt (rows.filter fun r=>decide (r.1<=n))
theorem P_nil (n:Int):P [] n=0:=rfl
theorem HY (r:Rw) (rs:List Rw) (n:Int):P (r::rs) n=(if r.1<=n then r.2 else 0)+P rs n:=by
 unfold P
 by_cases h:r.1<=n
 ·rw [Bc (by simpa using h),ZF,if_pos h]
 ·rw [FQ (by simpa using h),if_neg h,xR]
theorem zK (a b:List Rw) (n:Int):P (a++b) n=P a n+P b n:=by unfold P;rw [tX,Cu]
theorem ahX (r:Rw) (n:Int):P [r] n=if r.1<=n then r.2 else 0:=by rw [HY,P_nil,Bw]
structure Good (rows:List Rw) (c:Int):Prop where
 one:∀ r∈rows,1<=r.1/\r.1<=c/\1<=r.2
 up:rows.Pairwise fun a b=>a.1<b.1
theorem Good.nil:Good [] 0:=⟨(fun r m=>nomatch m),List.Pairwise.nil⟩
theorem Good.le {rows:List Rw} {c c':Int} (h:Good rows c) (hc:c<=c'):Good rows c':=⟨fun r m=>by obtain ⟨a,b,d⟩:=h.one r m;exact ⟨a,by lia,d⟩,h.up⟩
theorem Good.snoc {rows:List Rw} {c v:Int} (h:Good rows c) (c0:0<=c) (hv:1<=v):Good (rows++[(c+1,v)]) (c+1):=by
 refine ⟨fun r m=>?_,?_⟩
 ·rcases dg.mp m with m | m
  ·obtain ⟨a,b,d⟩:=h.one r m;exact ⟨a,by lia,d⟩
  ·rw [d8.mp m];exact ⟨by show 1<=c+1;lia,cP _,hv⟩
 ·rw [lE]
  refine ⟨h.up,Tw _ _,fun a ha b hb=>?_⟩
  rw [d8.mp hb]
  obtain ⟨_,b',_⟩:=h.one a ha
  show a.1<c+1;lia
theorem afi:∀ {rows:List Rw},(∀ r∈rows,1<=r.2)->∀ a b,a<=b->P rows a<=P rows b
 | [],_,_,_,_=>cP _
 | r::rs,h,a,b,hab=>by
  have:=afi (rows:=rs) (fun x m=>h x (gk _ m)) a b hab
  have h1:=h r cZ
  rw [HY,HY]
  by_cases c1:r.1<=a
  ·rw [if_pos c1,if_pos tb_g%];lia
  ·rw [if_neg c1]
   by_cases c2:r.1<=b
   ·rw [if_pos c2];lia
   ·rw [if_neg c2];lia
theorem afj {rows:List Rw} {n:Int} (h:∀ r∈rows,n<r.1):P rows n=0:=by
 unfold P
 rw [CT.mpr (fun r m=>by have:=h r m;simp;lia)];rfl
theorem yu {rows:List Rw} {n:Int} (h:∀ r∈rows,r.1<=n):P rows n=wt rows:=by
 unfold P
 rw [TQ.mpr (fun r m=>by have:=h r m;simpa using this)]
theorem Good.sums {rows:List Rw} {c:Int} (h:Good rows c):Sums (P rows) :=
 ⟨fun n hn=>afj fun r m=>by obtain ⟨a,_,_⟩:=h.one r m;lia,fun a b=>afi (fun r m=>(h.one r m).2.2) a b⟩
theorem Chain.up {P:Int->Int} {edge u u':Int} (he:edge<=u) (hu:u<=u') (hP:P u'=P u):∀ {bs:List Box},Chain P edge u bs->Chain P edge u' bs
 | [],h=>fun _=>by rw [hP];exact h he
 | b::os,⟨h1,h2,h3,h4,h5,h6,h7,r⟩=>⟨h1,h2,by lia,by rw [hP];exact h4,h5,h6,h7,r⟩
theorem Chain.congr {P P':Int->Int} {edge:Int}:∀ {bs:List Box} {u:Int},(∀ n,n<=u->P' n=P n)->Chain P edge u bs->Chain P' edge u bs
 | [],u,e,h=>fun hu=>by rw [e u (cP _),e edge hu];exact h hu
 | b::os,u,e,⟨h1,h2,h3,h4,h5,h6,h7,r⟩=>by
  refine ⟨h1,h2,h3,?_,?_,?_,?_,r.congr fun n hn=>e n tb_g%⟩
  ·rw [e u (cP _),e b.l h3];exact h4
  ·rw [e b.l h3,e (b.f-1) tb_g%];exact h5
  ·rw [e (b.f-1) tb_g%,e b.f tb_g%];exact h6
  ·rw [e (b.l-1) tb_g%,e b.l h3];exact h7
structure Inv (r k c:Int) (rows:List Rw) (bs:List Box):Prop where
 good:Good rows c
 c0:0<=c
 chain:Chain (P rows) (c-k) c bs.reverse
 multi:Multi r 0 bs.reverse
 neigh:wz r 0 bs.reverse
theorem Inv.init (r k:Int):Inv r k 0 [] []:=⟨.nil,cP _,fun _=>rfl,trivial,trivial⟩
theorem Inv.settle {r k c e:Int} {rows:List Rw} {bs:List Box} (hr:0<=r) (g:Good rows c) (c0:0<=c) (he:e<=c-k) (ch:Chain (P rows) e c bs.reverse) (mu:Multi r 0 bs.reverse) :
  Inv r k c rows (settled r (bs.filter fun b=>decide (c-k<b.l)).reverse).reverse:=by
 have e1:(bs.filter fun b=>decide (c-k<b.l)).reverse=bs.reverse.filter fun b=>decide (c-k<b.l):=by rw [TY]
 have ch2:=ch.edge g.sums he
 obtain ⟨n,hn⟩:=ch.Dk (nP:=c-k)
 refine ⟨g,c0,?_,?_,?_⟩
 ·rw [FW,e1];exact ch2.settled
 ·rw [FW,e1,hn];exact Ju (mu.take n)
 ·rw [FW,e1]
  exact Jv hr fun x m=>iG (by decide) (ch2.pos g.sums x m)
theorem Inv.idle {r k c v:Int} {rows:List Rw} {bs:List Box} (h:Inv r k c rows bs) (hr:0<=r) (hk:0<=k) (hv:0<=v):Inv r k (c+v) rows (settled r (bs.filter fun b=>decide (c+v-k<b.l)).reverse).reverse:=by
 refine .settle hr (h.good.le tb_g%) (by have:=h.c0;lia) (e:=c-k) tb_g% (h.chain.up tb_g% tb_g% ?_) h.multi
 rw [yu fun r m=>by have:=(h.good.one r m).2.1;lia,yu fun r m=>(h.good.one r m).2.1]
theorem Inv.add {r k c v:Int} {rows:List Rw} {bs:List Box} (h:Inv r k c rows bs) (hr:0<=r) (hv:1<=v):Inv r k (c+1) (rows++[(c+1,v)]) (settled r ((bs++[(⟨c+1,c+1,v⟩:Box)]).filter fun b=>decide (c+1-k<b.l)).reverse).reverse:=by
 have c0:=h.c0
 have low:∀ n,n<=c->P (rows++[(c+1,v)]) n=P rows n:=fun n hn=>by
  rw [zK,ahX,if_neg (by show ¬ c+1<=n;lia),Bw]
 have top:P (rows++[(c+1,v)]) (c+1)=P rows c+v:=by
  rw [zK,ahX,if_pos (cP _),yu fun r m=>by have:=(h.good.one r m).2.1;lia,yu fun r m=>(h.good.one r m).2.1]
 refine .settle hr (h.good.snoc c0 hv) tb_g% (e:=c-k) tb_g% ?_ ?_
 ·rw [CZ]
  have e0:c+1-1=c:=by lia
  refine ⟨by show 1<=c+1;lia,cP _,cP _,rfl,?_,?_,?_,?_⟩
  ·show v=P _ (c+1)-P _ (c+1-1)
   rw [e0,top,low c (cP _)];lia
  ·show P _ (c+1-1)<P _ (c+1)
   rw [e0,top,low c (cP _)];lia
  ·show P _ (c+1-1)<P _ (c+1)
   rw [e0,top,low c (cP _)];lia
  ·show Chain _ _ (c+1-1) _
   rw [e0]
   exact h.chain.congr low
 ·rw [CZ]
  exact ⟨fun z=>absurd rfl z,h.multi.mono (by show (0:Int)<=0+v;lia)⟩
theorem sum_reverse (bs:List Box):sum bs.reverse=sum bs:=by
 induction bs with
 | nil=>rfl
 | cons b r ih=>rw [wX,sum_append,ih,sum_cons,sum_cons,sum_nil];lia
theorem Dl (e:Int) (bs:List Box):low e bs.reverse=low e bs:=by unfold low;rw [TY,sum_reverse]
theorem Rv (e:Int) (bs:List Box):cut e bs.reverse=cut e bs:=by unfold cut;rw [TY,sum_reverse]
theorem Inv.near {r k c:Int} {rows:List Rw} {bs:List Box} (h:Inv r k c rows bs) (hr:0<=r) (e:Int):cut e bs*r<=low e bs:=by
 have h0:0<=low e bs:=by
  rw [<- Dl]
  unfold low
  have:=h.chain.pos h.good.sums
  have key:∀ l:List Box,(∀ b∈l,1<=b.s)->0<=sum l:=fun l=>by
   induction l with
   | nil=>intro _;exact cP _
   | cons b r ih=>intro k;rw [sum_cons];have:=k b cZ;have:=ih fun x m=>k x (gk _ m);lia
  exact key _ fun b m=>this b (xr.mp m).1
 have:=h.chain.near hr (e:=e) h.multi
 rw [Dl,Rv] at this
 rcases this with z | z
 ·lia
 ·rw [z];lia
noncomputable def mid (rows:List Rw) (f l:Int):List Rw:=rows.filter fun r=>decide (f<=r.1/\r.1<=l)
theorem Chain.mem {P:Int->Int} {edge:Int}:∀ {bs:List Box} {u:Int},Chain P edge u bs->∀ b∈bs,b.f<=b.l/\b.s=P b.l-P (b.f-1)/\P (b.f-1)<P b.f/\P (b.l-1)<P b.l
 | b::os,u,⟨h1,h2,h3,h4,h5,h6,h7,r⟩,x,m=>by
  rcases cU.mp m with rfl | m
  ·exact ⟨h2,h5,h6,h7⟩
  ·exact Chain.mem r x m
theorem Chain.order {P:Int->Int} {edge:Int}:∀ {bs:List Box} {u:Int},Chain P edge u bs->bs.Pairwise fun a b=>b.l<a.f
 | [],_,_=>List.Pairwise.nil
 | b::os,u,⟨_,_,_,_,_,_,_,r⟩=>iV.mpr ⟨fun x m=>by have:=(Chain.below r x m).2.2;lia,Chain.order r⟩
theorem Chain.Pb {P:Int->Int} {edge:Int} (hP:Sums P):∀ {bs:List Box} {u:Int},Chain P edge u bs->0<=u->sum bs<=P u
 | [],u,_,hu=>by
  have:=hP.mono 0 u hu
  rw [hP.zero 0 (cP _)] at this
  exact this
 | b::os,u,⟨h1,h2,h3,h4,h5,h6,h7,r⟩,hu=>by
  have:=Chain.Pb hP r tb_g%
  rw [sum_cons,h4];lia
theorem Inv.order {r k c:Int} {rows:List Rw} {bs:List Box} (h:Inv r k c rows bs):bs.Pairwise fun a b=>a.l<b.f:=by
 have:=h.chain.order
 rw [abX] at this
 exact this
theorem Inv.Pb {r k c:Int} {rows:List Rw} {bs:List Box} (h:Inv r k c rows bs):sum bs<=wt rows:=by
 have:=h.chain.Pb h.good.sums h.c0
 rw [sum_reverse,yu fun r m=>(h.good.one r m).2.1] at this
 exact this
theorem Inv.pos {r k c:Int} {rows:List Rw} {bs:List Box} (h:Inv r k c rows bs) {b:Box} (m:b∈bs):1<=b.s:=h.chain.pos h.good.sums b (tZ.mpr m)
theorem Inv.few {r k c:Int} {rows:List Rw} {bs:List Box} (h:Inv r k c rows bs) (hr:1<=r) (p:Nat) (hl:2+2*p<bs.length):(r+1) ^ (p+1)<sum bs*r ^ (p+1):=by
 have:=_root_.WN.few hr (bs:=bs.reverse) (fun b m=>h.pos (tZ.mp m)) h.neigh p (by rw [Bh];exact hl)
 rw [sum_reverse] at this
 exact this
noncomputable def sh (c:Int) (b:Box):Box:=⟨b.f+c,b.l+c,b.s⟩
noncomputable def shR (c:Int) (r:Rw):Rw:=(r.1+c,r.2)
theorem ZG (rows:List Rw) (c n:Int):P (rows.map (shR c)) n=P rows (n-c):=by
 induction rows with
 | nil=>rfl
 | cons r rs ih =>
  rw [f9,HY,HY,ih]
  congr 1
  show (if r.1+c<=n then r.2 else 0)=_
  by_cases h:r.1<=n-c
  ·rw [if_pos h,if_pos tb_g%]
  ·rw [if_neg h,if_neg tb_g%]
theorem aj3 (c:Int) (bs:List Box):sum (bs.map (sh c))=sum bs:=by
 unfold sum;rw [mY];rfl
theorem Multi.sh {room c:Int}:∀ {bs:List Box} {S:Int},Multi room S bs->Multi room S (bs.map (sh c))
 | [],_,_=>trivial
 | b::os,S,m=>⟨fun z=>m.1 (fun y=>z (by show b.f+c=b.l+c;rw [y])),Multi.sh m.2⟩
theorem Multi.append {room:Int}:∀ {xs ys:List Box} {S:Int},Multi room S xs->Multi room (S+sum xs) ys->Multi room S (xs++ys)
 | [],ys,S,_,h=>by rw [sum_nil,Bw] at h;exact h
 | x::xs,ys,S,m,h=>⟨m.1,Multi.append m.2 (by rw [sum_cons,<- Ve] at h;exact h)⟩
structure Two (rows ji:List Rw) (c:Int):Prop where
 low:∀ n,n<=c->P (rows++ji.map (shR c)) n=P rows n
 high:∀ n,0<=n->P (rows++ji.map (shR c)) (n+c)=wt rows+P ji n
theorem Pg {rows ji:List Rw} {c c':Int} (g:Good rows c) (g':Good ji c'):Two rows ji c:=by
 refine ⟨fun n hn=>?_,fun n hn=>?_⟩
 ·rw [zK,ZG,afj (n:=n-c) fun r m=>by have:=(g'.one r m).1;lia,Bw]
 ·rw [zK,ZG,show n+c-c=n by lia,yu fun r m=>by have:=(g.one r m).2.1;lia]
theorem Good.both {rows ji:List Rw} {c c':Int} (g:Good rows c) (g':Good ji c') (c0:0<=c) (c0':0<=c'):Good (rows++ji.map (shR c)) (c+c'):=by
 refine ⟨fun r m=>?_,?_⟩
 ·rcases dg.mp m with m | m
  ·obtain ⟨a,b,d⟩:=g.one r m;exact ⟨a,by lia,d⟩
  ·obtain ⟨x,hx,rfl⟩:=jV.mp m
   obtain ⟨a,b,d⟩:=g'.one x hx
   exact ⟨by show 1<=x.1+c;lia,by show x.1+c<=_;lia,d⟩
 ·rw [lE]
  refine ⟨g.up,?_,fun a ha b hb=>?_⟩
  ·rw [Ga]
   refine g'.up.imp fun {a b} h=>?_
   show a.1+c<b.1+c;lia
  ·obtain ⟨x,hx,rfl⟩:=jV.mp hb
   have h1:=(g.one a ha).2.1
   have h2:=(g'.one x hx).1
   show a.1<x.1+c;lia
theorem Chain.glue {rows ji:List Rw} {c c' e0 e1:Int} (g:Good rows c) (g':Good ji c') (c0:0<=c) (h0:e0<=c) (h1:e1<=0) {ys:List Box} (hy:Chain (P rows) e0 c ys) :
  ∀ {xs:List Box} {u:Int},0<=u->Chain (P ji) e1 u xs->Chain (P (rows++ji.map (shR c))) e0 (u+c) (xs.map (sh c)++ys)
 | [],u,hu,h=>by
  have t:=Pg g g'
  have z:P ji u=0:=by
   rw [h tb_g%]
   exact afj fun r m=>by have:=(g'.one r m).1;lia
  refine Chain.up h0 tb_g% ?_ (hy.congr t.low)
  rw [t.high u hu,z,t.low c (cP _),yu fun r m=>(g.one r m).2.1,Bw]
 | b::os,u,hu,⟨a1,a2,a3,a4,a5,a6,a7,r⟩=>by
  have t:=Pg g g'
  refine ⟨by show 1<=b.f+c;lia,by show b.f+c<=b.l+c;lia,by show b.l+c<=u+c;lia,?_,?_,?_,?_,?_⟩
  ·show P _ (u+c)=P _ (b.l+c)
   rw [t.high u hu,t.high b.l tb_g%,a4]
  ·show b.s=P _ (b.l+c)-P _ (b.f+c-1)
   rw [show b.f+c-1=(b.f-1)+c by lia,t.high b.l tb_g%,t.high (b.f-1) tb_g%];lia
  ·show P _ (b.f+c-1)<P _ (b.f+c)
   rw [show b.f+c-1=(b.f-1)+c by lia,t.high b.f tb_g%,t.high (b.f-1) tb_g%];lia
  ·show P _ (b.l+c-1)<P _ (b.l+c)
   rw [show b.l+c-1=(b.l-1)+c by lia,t.high b.l tb_g%,t.high (b.l-1) tb_g%];lia
  ·have:=Chain.glue g g' c0 h0 h1 hy (u:=b.f-1) tb_g% r
   show Chain _ _ (b.f+c-1) _
   rw [show b.f+c-1=(b.f-1)+c by lia]
   exact this
theorem Chain.alone {rows ji:List Rw} {c c' e1:Int} (g:Good rows c) (g':Good ji c') (c0:0<=c) (h1:0<=e1) :
  ∀ {xs:List Box} {u:Int},0<=u->Chain (P ji) e1 u xs->Chain (P (rows++ji.map (shR c))) (e1+c) (u+c) (xs.map (sh c))
 | [],u,hu,h=>fun he=>by
  have t:=Pg g g'
  rw [t.high u hu,t.high e1 h1,h tb_g%]
 | b::os,u,hu,⟨a1,a2,a3,a4,a5,a6,a7,r⟩=>by
  have t:=Pg g g'
  refine ⟨by show 1<=b.f+c;lia,by show b.f+c<=b.l+c;lia,by show b.l+c<=u+c;lia,?_,?_,?_,?_,?_⟩
  ·show P _ (u+c)=P _ (b.l+c)
   rw [t.high u hu,t.high b.l tb_g%,a4]
  ·show b.s=P _ (b.l+c)-P _ (b.f+c-1)
   rw [show b.f+c-1=(b.f-1)+c by lia,t.high b.l tb_g%,t.high (b.f-1) tb_g%];lia
  ·show P _ (b.f+c-1)<P _ (b.f+c)
   rw [show b.f+c-1=(b.f-1)+c by lia,t.high b.f tb_g%,t.high (b.f-1) tb_g%];lia
  ·show P _ (b.l+c-1)<P _ (b.l+c)
   rw [show b.l+c-1=(b.l-1)+c by lia,t.high b.l tb_g%,t.high (b.l-1) tb_g%];lia
  ·have:=Chain.alone g g' c0 h1 (u:=b.f-1) tb_g% r
   show Chain _ _ (b.f+c-1) _
   rw [show b.f+c-1=(b.f-1)+c by lia]
   exact this
theorem Inv.follow {r k c c':Int} {rows ji:List Rw} {bs bs':List Box} (h:Inv r k c rows bs) (h':Inv r k c' ji bs') (hr:0<=r) (hk:1<=k) :
  Inv r k (c+c') (rows++ji.map (shR c)) (settled r ((bs++bs'.map (sh c)).filter fun b=>decide (c+c'-k<b.l)).reverse).reverse:=by
 have c0:=h.c0
 have c0':=h'.c0
 have gd:=h.good.both h'.good c0 c0'
 by_cases hc:c'-k<=0
 ·refine .settle hr gd tb_g% (e:=c-k) tb_g% ?_ ?_
  ·rw [CZ,<- uc,adf c c']
   exact Chain.glue h.good h'.good c0 tb_g% hc h.chain c0' h'.chain
  ·rw [CZ,<- uc]
   refine Multi.append h'.multi.sh (h.multi.mono ?_)
   rw [aj3,sum_reverse,xR]
   have key:∀ l:List Box,(∀ b∈l,1<=b.s)->0<=sum l:=fun l=>by
    induction l with
    | nil=>intro _;exact cP _
    | cons b r ih=>intro k;rw [sum_cons];have:=k b cZ;have:=ih fun x m=>k x (gk _ m);lia
   exact key _ fun b m=>h'.pos m
 ·have e:((bs++bs'.map (sh c)).filter fun b=>decide (c+c'-k<b.l))=(bs'.map (sh c)).filter fun b=>decide (c+c'-k<b.l):=by
   rw [tX,CT.mpr (fun b m=>by
    have:=(h.chain.below b (tZ.mpr m)).2.2
    simp;lia),Ue]
  rw [e]
  refine .settle hr gd tb_g% (e:=c'-k+c) tb_g% ?_ ?_
  ·rw [<- uc,adf c c']
   exact Chain.alone h.good h'.good c0 tb_g% c0' h'.chain
  ·rw [<- uc]
   exact h'.multi.sh
noncomputable abbrev Ar:=Int × Int
noncomputable def clock (as:List Ar):Int:=(as.map (·.1)).sum
noncomputable def Rx:Int->List Ar->List Rw
 | _,[]=>[]
 | n,a::as=>(if a.2=0 then [] else [(n+a.1,a.2)])++Rx (n+a.1) as
noncomputable def rows (as:List Ar):List Rw:=Rx 0 as
end WN
namespace L2
open PySem PySem.Spec PyProof.Rows
section
variable {prog:aN} {w:World} {A:bC} {E:Value->Shared->Prop} {s:Shared}
noncomputable def outR (Q E:Value->Shared->Prop) (r:j6) (z:Shared):Prop:=match r with
 | .ok (.ret u)=>Q u z
 | .ok _=>False
 | .error u=>E u z
noncomputable def outF (prog:aN) (w:World) (A:bC) (Q E:Value->Shared->Prop) (f:Fin) (z:Shared):Prop:=match f with
 | .done g=>outR Q E (.ok g) z
 | .again c=>c.quiet=true/\gj (model prog w) A c (outR Q E) z
theorem ZJ {id:String} {b:gh} {xs:List Value} {kw:List (Str × Value)} {Q:Value->Shared->Prop} (hk:builtinKind id=none)
  (hp:plainId id=true) (hb:Fx table id=some b) (ha:pQ id ⟨xs,kw⟩)
  (hc:wpAny (model prog w) A.in1 (b ⟨xs,kw⟩) (outF prog w A Q E) E s):wpAny (model prog w) A (call (.builtin id) xs kw) Q E s:=by
 refine Lx (abm hp hb ?_)
 simp only [abx,hk]
 have hc2:=fO hc (Q':=fun f z=>match f with
  | .done g=>outR Q E (.ok g) z
  | .again c=>c.quiet=true/\gj (model prog w) A c (outR Q E) z) (fun _ _ h=>h) fun _ _ h=>h
 generalize hsig:Manifest.signature? id=sg at *
 cases sg with
 | none=>exact bH hc2
 | some sig =>
  have e:adY id sig ⟨xs,kw⟩=pure ():=by
   simp only [pQ,hsig] at ha
   exact ha
  refine (?_:wpAny _ A.in1 (adY id sig ⟨xs,kw⟩) _ _ s)
  rw [e]
  exact bH hc2
end
section
variable {prog:aN} {w:World} {A:bC} {R:j6->Shared->Prop} {it:Addr} {fp wr:List Addr} {n:Nat} {P:Nat->Value->Prop} {St:Nat->Heap->Prop}
theorem agX (W:Walks prog w A.in1 it fp wr n P St) (bt:Nat->Nat->Bool)
  (cm:CmpOf prog w A.in1 .Lt P bt) (S:Addr) (nS:S∉fp) (kw:List (Str × Value)) :
  ∀ (k j:Nat) (s:Shared) (u:Value) (c:Nat),k+(j+1)=n->St (j+1) s.heap->P (iy bt j) u ->
   s.heap.get? S=some { cls:=.type "list",data:=.seq #[u,u] c } ->
   (∀ v h' tk,P (iy bt (n-1)) v->(∀ b o,b∉wr->b≠S->s.heap.get? b=some o->h'.get? b=some o) ->
    R (.ok (.ret v)) { s with heap:=h',toks:=tk }) ->
   gj (model prog w) A (.builtin "min.loop" ⟨[.ref it,.none,.ref S],kw⟩) R s:=by
 have nw:S∉wr:=fun h=>nS (W.sub _ h)
 have nm:(toString "min" ++ toString ".loop" : String) = "min.loop" := by decide
 intro k
 induction k with
 | zero =>
  intro j s u c e st pu hS post
  have ej:j=n-1:=by lia
  have en:j+1=n:=by lia
  rw [ej] at pu
  rw [en] at st
  refine sW F.entry_min_loop ?_
  rw [uD F.plain_min_loop _]
  refine aG (qQ hS rfl ?_)
  refine aG (pL (W.done s _ _ st fun h1 tk1 kp=>?_))
  refine aG (qP (kp S _ nw hS) rfl (aG (qR (bH ?_))))
  exact post u _ tk1 pu fun b o nb nbS eb=>by
   rw [m8 _ _ (aK nbS)];exact kp b o nb eb
 | succ k ih =>
  intro j s u c e st pu hS post
  refine sW F.entry_min_loop ?_
  rw [uD F.plain_min_loop _]
  refine aG (qQ hS rfl ?_)
  refine aG (pL (W.item (j+1) s _ _ tb_g% st fun v h1 tk1 pv st1 kp=>?_))
  have hS1:=kp S _ nw hS
  refine aG (bH ?_)
  refine aG (pL (jR (aG (cm (j+1) (iy bt j) v u _ _ _ pv pu ?_))))
  refine aG (jR (Am (aG (qR (bH ?_)))))
  have ab:iy bt (j+1)=if bt (j+1) (iy bt j) then j+1 else iy bt j:=rfl
  cases hb:bt (j+1) (iy bt j) with
  | true =>
   rw [hb,if_pos rfl] at ab
   rw [if_pos rfl]
   refine aG (qP hS1 rfl (aG (qR ?_)))
   rw [nm]
   refine bH ⟨oN F.plain_min_loop _,ih (j+1) _ v _ tb_g% (W.frame _ _ _ st1 fun b hb o eb=>?_) (by rw [ab];exact pv) (yO _ hS1 rfl) fun v2 h2 tk2 p2 k2=>?_⟩
   ·rw [m8 _ _ (fun z:S=b=>nS (z ▸ hb))];exact eb
   ·exact post v2 h2 tk2 p2 fun b o nb nbS eb=>k2 b o nb nbS (by
     rw [m8 _ _ (aK nbS)];exact kp b o nb eb)
  | false =>
   rw [hb,if_neg (by decide)] at ab
   rw [if_neg (by decide)]
   refine aG (qR ?_)
   rw [nm]
   refine bH ⟨oN F.plain_min_loop _,ih (j+1) _ u c tb_g% st1 (by rw [ab];exact pu) hS1 fun v2 h2 tk2 p2 k2=>?_⟩
   exact post v2 h2 tk2 p2 fun b o nb nbS eb=>k2 b o nb nbS (kp b o nb eb)
theorem Ym (W:Walks prog w A.in1 it fp wr n P St) (bt:Nat->Nat->Bool)
  (cm:CmpOf prog w A.in1 .Lt P bt) (S:Addr) (nS:S∉fp) (d:Value) {s:Shared} {c:Nat} (st:St 0 s.heap)
  (hS:s.heap.get? S=some { cls:=.type "list",data:=.seq #[] c })
  (post:∀ v h' tk,(if 0<n then P (iy bt (n-1)) v else v=d)->(∀ b o,b∉wr->b≠S->s.heap.get? b=some o->h'.get? b=some o) ->
   R (.ok (.ret v)) { s with heap:=h',toks:=tk }) :
  gj (model prog w) A (.builtin "min.loop" ⟨[.ref it,.none,.ref S],[("default",d)]⟩) R s:=by
 have nw:S∉wr:=fun h=>nS (W.sub _ h)
 have nm:(toString "min" ++ toString ".loop" : String) = "min.loop" := by decide
 refine sW F.entry_min_loop ?_
 rw [uD F.plain_min_loop _]
 refine aG (qQ hS rfl ?_)
 rcases Gm n with e | e
 ·subst e
  refine aG (pL (W.done s _ _ st fun h1 tk1 kp=>?_))
  refine aG (jY ?_)
  exact bH (post d h1 tk1 rfl fun b o nb _ eb=>kp b o nb eb)
 ·refine aG (pL (W.item 0 s _ _ e st fun v h1 tk1 pv st1 kp=>?_))
  have hS1:=kp S _ nw hS
  refine aG (bH ?_)
  refine aG (qP hS1 rfl ?_)
  rw [nm]
  refine bH ⟨oN F.plain_min_loop _,agX W bt cm S nS _ (n-1) 0 _ v _ tb_g% (W.frame _ _ _ st1 fun b hb o eb=>?_) pv (yO _ hS1 rfl) fun v2 h2 tk2 p2 k2=>?_⟩
  ·rw [m8 _ _ (fun z:S=b=>nS (z ▸ hb))];exact eb
  ·exact post v2 h2 tk2 (by rw [if_pos (show 0<n from e)];exact p2) fun b o nb nbS eb=>k2 b o nb nbS (by
    rw [m8 _ _ (aK nbS)];exact kp b o nb eb)
end
section
variable {prog:aN} {w:World} {A:bC} {E:Value->Shared->Prop} {s:Shared} {l:Addr} {xs:Array (Int × Tok)}
theorem aaL (a d:Value):pQ "min" ⟨[a],[("default",d)]⟩:=by unfold pQ;kernel_rfl
theorem aaM {Q:Value->Shared->Prop} (d:Value) (hh:A.handled=none) (hl:s.heap.IsList l (lQ xs))
  (post:∀ v h' tk,(if 0<xs.size then (lQ xs)[iy (fun i j=>decide (numAt xs i<numAt xs j)) (xs.size-1)]? = some v else v=d) ->
   (∀ b o,s.heap.get? b=some o->h'.get? b=some o)->Q v { s with heap:=h',toks:=tk }) :
  wpAny (model prog w) A (call (.builtin "min") [.ref l] [("default",d)]) Q E s:=by
 have nm:(toString "min" ++ toString ".loop" : String) = "min.loop" := by decide
 have sz:(lQ xs).size=xs.size:=by simp [lQ]
 refine ZJ F.kind_min F.plain_min F.entry_min (aaL _ _) ?_
 refine aG (pN (show adK "min" ["key","default"] 0 ⟨[],[("default",d)]⟩=pure [none,some d] from rfl) ?_)
 refine aG (bH ?_)
 refine aG (abN hl fun s2 e st hfp nlI=>?_)
 subst e
 refine aG (yK ?_)
 rw [nm]
 refine bH ⟨oN F.plain_min_loop _,Ym (Gz (A:=A.in1) hh _ l nlI (lQ xs)) _ (CmpOf.ints_lt (numAt xs) fun _ _=>Lr) _ (fun hm=>oU _ (hfp _ hm)) d ?_ (eE _ rfl) fun v h' tk hv kp=>?_⟩
 ·exact (Gz (A:=A.in1) (prog:=prog) (w:=w) hh _ l nlI (lQ xs)).frame _ _ _ st fun b _ o e=>dR _ e
 ·rw [sz] at hv
  refine post v h' tk hv fun b o e=>kp b o ?_ ?_ (dR _ (dR _ e))
  ·intro hm
   have h1:=d8.mp hm
   have h2:=bR e
   rw [h1] at h2
   exact oU _ h2
  ·have h2:=bR e
   rw [qU]
   exact cO (um h2)
end
section
variable {prog:aN} {w:World} {A:bC} {R:j6->Shared->Prop} {it:Addr} {fp wr:List Addr} {n:Nat} {P:Nat->Value->Prop} {St:Nat->Heap->Prop}
theorem agY (W:Walks prog w A.in1 it fp wr n P St) (bt:Nat->Nat->Bool)
  (cm:CmpOf prog w A.in1 .Gt P bt) (S:Addr) (nS:S∉fp) (kw:List (Str × Value)) :
  ∀ (k j:Nat) (s:Shared) (u:Value) (c:Nat),k+(j+1)=n->St (j+1) s.heap->P (iy bt j) u ->
   s.heap.get? S=some { cls:=.type "list",data:=.seq #[u,u] c } ->
   (∀ v h' tk,P (iy bt (n-1)) v->(∀ b o,b∉wr->b≠S->s.heap.get? b=some o->h'.get? b=some o) ->
    R (.ok (.ret v)) { s with heap:=h',toks:=tk }) ->
   gj (model prog w) A (.builtin "max.loop" ⟨[.ref it,.none,.ref S],kw⟩) R s:=by
 have nw:S∉wr:=fun h=>nS (W.sub _ h)
 have nm:(toString "max" ++ toString ".loop" : String) = "max.loop" := by decide
 intro k
 induction k with
 | zero =>
  intro j s u c e st pu hS post
  have ej:j=n-1:=by lia
  have en:j+1=n:=by lia
  rw [ej] at pu
  rw [en] at st
  refine sW F.entry_max_loop ?_
  rw [uD F.plain_max_loop _]
  refine aG (qQ hS rfl ?_)
  refine aG (pL (W.done s _ _ st fun h1 tk1 kp=>?_))
  refine aG (qP (kp S _ nw hS) rfl (aG (qR (bH ?_))))
  exact post u _ tk1 pu fun b o nb nbS eb=>by
   rw [m8 _ _ (aK nbS)];exact kp b o nb eb
 | succ k ih =>
  intro j s u c e st pu hS post
  refine sW F.entry_max_loop ?_
  rw [uD F.plain_max_loop _]
  refine aG (qQ hS rfl ?_)
  refine aG (pL (W.item (j+1) s _ _ tb_g% st fun v h1 tk1 pv st1 kp=>?_))
  have hS1:=kp S _ nw hS
  refine aG (bH ?_)
  refine aG (pL (jR (aG (cm (j+1) (iy bt j) v u _ _ _ pv pu ?_))))
  refine aG (jR (Am (aG (qR (bH ?_)))))
  have ab:iy bt (j+1)=if bt (j+1) (iy bt j) then j+1 else iy bt j:=rfl
  cases hb:bt (j+1) (iy bt j) with
  | true =>
   rw [hb,if_pos rfl] at ab
   rw [if_pos rfl]
   refine aG (qP hS1 rfl (aG (qR ?_)))
   rw [nm]
   refine bH ⟨oN F.plain_max_loop _,ih (j+1) _ v _ tb_g% (W.frame _ _ _ st1 fun b hb o eb=>?_) (by rw [ab];exact pv) (yO _ hS1 rfl) fun v2 h2 tk2 p2 k2=>?_⟩
   ·rw [m8 _ _ (fun z:S=b=>nS (z ▸ hb))];exact eb
   ·exact post v2 h2 tk2 p2 fun b o nb nbS eb=>k2 b o nb nbS (by
     rw [m8 _ _ (aK nbS)];exact kp b o nb eb)
  | false =>
   rw [hb,if_neg (by decide)] at ab
   rw [if_neg (by decide)]
   refine aG (qR ?_)
   rw [nm]
   refine bH ⟨oN F.plain_max_loop _,ih (j+1) _ u c tb_g% st1 (by rw [ab];exact pu) hS1 fun v2 h2 tk2 p2 k2=>?_⟩
   exact post v2 h2 tk2 p2 fun b o nb nbS eb=>k2 b o nb nbS (kp b o nb eb)
theorem Yn (W:Walks prog w A.in1 it fp wr n P St) (bt:Nat->Nat->Bool)
  (cm:CmpOf prog w A.in1 .Gt P bt) (S:Addr) (nS:S∉fp) (d:Value) {s:Shared} {c:Nat} (st:St 0 s.heap)
  (hS:s.heap.get? S=some { cls:=.type "list",data:=.seq #[] c })
  (post:∀ v h' tk,(if 0<n then P (iy bt (n-1)) v else v=d)->(∀ b o,b∉wr->b≠S->s.heap.get? b=some o->h'.get? b=some o) ->
   R (.ok (.ret v)) { s with heap:=h',toks:=tk }) :
  gj (model prog w) A (.builtin "max.loop" ⟨[.ref it,.none,.ref S],[("default",d)]⟩) R s:=by
 have nw:S∉wr:=fun h=>nS (W.sub _ h)
 have nm:(toString "max" ++ toString ".loop" : String) = "max.loop" := by decide
 refine sW F.entry_max_loop ?_
 rw [uD F.plain_max_loop _]
 refine aG (qQ hS rfl ?_)
 rcases Gm n with e | e
 ·subst e
  refine aG (pL (W.done s _ _ st fun h1 tk1 kp=>?_))
  refine aG (jY ?_)
  exact bH (post d h1 tk1 rfl fun b o nb _ eb=>kp b o nb eb)
 ·refine aG (pL (W.item 0 s _ _ e st fun v h1 tk1 pv st1 kp=>?_))
  have hS1:=kp S _ nw hS
  refine aG (bH ?_)
  refine aG (qP hS1 rfl ?_)
  rw [nm]
  refine bH ⟨oN F.plain_max_loop _,agY W bt cm S nS _ (n-1) 0 _ v _ tb_g% (W.frame _ _ _ st1 fun b hb o eb=>?_) pv (yO _ hS1 rfl) fun v2 h2 tk2 p2 k2=>?_⟩
  ·rw [m8 _ _ (fun z:S=b=>nS (z ▸ hb))];exact eb
  ·exact post v2 h2 tk2 (by rw [if_pos (show 0<n from e)];exact p2) fun b o nb nbS eb=>k2 b o nb nbS (by
    rw [m8 _ _ (aK nbS)];exact kp b o nb eb)
end
section
variable {prog:aN} {w:World} {A:bC} {E:Value->Shared->Prop} {s:Shared} {l:Addr} {xs:Array (Int × Tok)}
theorem aaN (a d:Value):pQ "max" ⟨[a],[("default",d)]⟩:=by unfold pQ;kernel_rfl
theorem aaO {Q:Value->Shared->Prop} (d:Value) (hh:A.handled=none) (hl:s.heap.IsList l (lQ xs))
  (post:∀ v h' tk,(if 0<xs.size then (lQ xs)[iy (fun i j=>decide (numAt xs i>numAt xs j)) (xs.size-1)]? = some v else v=d) ->
   (∀ b o,s.heap.get? b=some o->h'.get? b=some o)->Q v { s with heap:=h',toks:=tk }) :
  wpAny (model prog w) A (call (.builtin "max") [.ref l] [("default",d)]) Q E s:=by
 have nm:(toString "max" ++ toString ".loop" : String) = "max.loop" := by decide
 have sz:(lQ xs).size=xs.size:=by simp [lQ]
 refine ZJ F.kind_max F.plain_max F.entry_max (aaN _ _) ?_
 refine aG (pN (show adK "max" ["key","default"] 0 ⟨[],[("default",d)]⟩=pure [none,some d] from rfl) ?_)
 refine aG (bH ?_)
 refine aG (abN hl fun s2 e st hfp nlI=>?_)
 subst e
 refine aG (yK ?_)
 rw [nm]
 refine bH ⟨oN F.plain_max_loop _,Yn (Gz (A:=A.in1) hh _ l nlI (lQ xs)) _ (CmpOf.ints_gt (numAt xs) fun _ _=>Lr) _ (fun hm=>oU _ (hfp _ hm)) d ?_ (eE _ rfl) fun v h' tk hv kp=>?_⟩
 ·exact (Gz (A:=A.in1) (prog:=prog) (w:=w) hh _ l nlI (lQ xs)).frame _ _ _ st fun b _ o e=>dR _ e
 ·rw [sz] at hv
  refine post v h' tk hv fun b o e=>kp b o ?_ ?_ (dR _ (dR _ e))
  ·intro hm
   have h1:=d8.mp hm
   have h2:=bR e
   rw [h1] at h2
   exact oU _ h2
  ·have h2:=bR e
   rw [qU]
   exact cO (um h2)
end
section
variable {X:Cx} {x:Str} {tl:TE} {px p kp pos:Pos} {j:Nat} {bpos:Pos}
noncomputable def Best (lo:Bool) (ns:List Int) (v:V):Prop:=(ns=[]/\v = .non)\/∃ m,v = .int m/\m∈ns/\∀ z∈ns,if lo then m<=z else z<=m
noncomputable def afk (K:bh) (lo:Bool) (tl:TE):TE:=fun σ H Q=>tl σ H fun y H1=>∃ (a:Addr) (ns:List Int),y = .ref a/\SqL K H1 a (ns.map V.int)/\∀ v,Best lo ns v->Q v H1
theorem agZ (hm0:X.mg "min" = none) (hl:PE X (.Name x px) tl) (hc:X.calm=true) (hg:Gl X "min" := by rfl) :
  PE X (.Call (.Name "min" p) [.Name x px] [⟨some "default",.Constant .none j bpos,kp⟩] pos) (afk X.K true tl):=by
 walk_at "k"
 refine tQ (nA I hg hm0 boot_min ?_)
 refine U8 (uE (thn (hl pins s σ H _ I h) fun v s1 ⟨y,H1,I1,r1,q1⟩=>?_))
 obtain ⟨a,ns,rfl,ha,q⟩:=q1
 obtain rfl:v=Value.ref a:=r1
 refine xV (Va ?_)
 refine U4 (kws_nil ?_)
 show wpAny _ _ (call (.builtin "min") [.ref a] [(rm "default",.none)]) _ _ _
 obtain ⟨its,rv,pl,hz⟩:=I1.list ha
 have hi:=intsAre_of rv
 have hl:=pl.isList
 obtain ⟨ys,e⟩:=hi.allInts.items
 have hns:ns=ys.toList.map (·.1):=by rw [<- hi.numsOf,<- SX,<- e]
 have hsz:ns.length=ys.size:=by rw [hns,bA,fU]
 rw [e] at hl
 refine aaM .none (I1.ok.hd hc) hl fun v h' tk hv hk=>?_
 rcases Gm ys.size with z | z
 ·rw [if_neg tb_g%] at hv
  subst hv
  exact ⟨.non,H1,I1.kept hk,rfl,q _ (.inl ⟨vX.mp tb_g%,rfl⟩)⟩
 ·rw [if_pos z] at hv
  obtain ⟨t,rfl⟩:=Lr hv
  obtain ⟨h1,h2⟩:=argBest_lt (numAt ys) (ys.size-1)
  refine ⟨.int _,H1,I1.kept hk,⟨t,rfl⟩,q _ (.inr ⟨_,rfl,?_,fun b hb=>?_⟩)⟩
  ·rw [hns,Mj];exact getD_mem (by rw [bA,fU];lia)
  ·rw [hns] at hb
   obtain ⟨j,hj,rfl⟩:=mem_getD hb
   rw [bA,fU] at hj
   rw [if_pos rfl,<- Mj];exact h2 j tb_g%
theorem ag0 (hm0:X.mg "max" = none) (hl:PE X (.Name x px) tl) (hc:X.calm=true) (hg:Gl X "max" := by rfl) :
  PE X (.Call (.Name "max" p) [.Name x px] [⟨some "default",.Constant .none j bpos,kp⟩] pos) (afk X.K false tl):=by
 walk_at "k"
 refine tQ (nA I hg hm0 boot_max ?_)
 refine U8 (uE (thn (hl pins s σ H _ I h) fun v s1 ⟨y,H1,I1,r1,q1⟩=>?_))
 obtain ⟨a,ns,rfl,ha,q⟩:=q1
 obtain rfl:v=Value.ref a:=r1
 refine xV (Va ?_)
 refine U4 (kws_nil ?_)
 show wpAny _ _ (call (.builtin "max") [.ref a] [(rm "default",.none)]) _ _ _
 obtain ⟨its,rv,pl,hz⟩:=I1.list ha
 have hi:=intsAre_of rv
 have hl:=pl.isList
 obtain ⟨ys,e⟩:=hi.allInts.items
 have hns:ns=ys.toList.map (·.1):=by rw [<- hi.numsOf,<- SX,<- e]
 have hsz:ns.length=ys.size:=by rw [hns,bA,fU]
 rw [e] at hl
 refine aaO .none (I1.ok.hd hc) hl fun v h' tk hv hk=>?_
 rcases Gm ys.size with z | z
 ·rw [if_neg tb_g%] at hv
  subst hv
  exact ⟨.non,H1,I1.kept hk,rfl,q _ (.inl ⟨vX.mp tb_g%,rfl⟩)⟩
 ·rw [if_pos z] at hv
  obtain ⟨t,rfl⟩:=Lr hv
  obtain ⟨h1,h2⟩:=argBest_gt (numAt ys) (ys.size-1)
  refine ⟨.int _,H1,I1.kept hk,⟨t,rfl⟩,q _ (.inr ⟨_,rfl,?_,fun b hb=>?_⟩)⟩
  ·rw [hns,Mj];exact getD_mem (by rw [bA,fU];lia)
  ·rw [hns] at hb
   obtain ⟨j,hj,rfl⟩:=mem_getD hb
   rw [bA,fU] at hj
   rw [if_neg (by decide),<- Mj];exact h2 j tb_g%
end
variable {pins:List (Addr × Obj)} {X:Cx} {scope:Scope} {w:World} {caps:List Nat} {s:Shared} {H:Hp} {mg:Str->Option Value} {N ps:List Str} {R:j6->Shared->Prop} {σ:St} {items:Array Value} {k t':Nat} {ifs elts:List Expr} {te:TE} {xs:List V} {tg iter:Expr} {x qual:Str} {ta:TA} {C D f:Addr} {outer:List Env} {bmB:List Value} {base:Heap} {g:TG} {ch fp:List Addr} {fd:FuncData} {tt:TT} {newId:String} {Q:VK} {A:bC} {cd:Value} {st:Stmt} {tpos p:Pos} {sp:Sp} {E:XK}
theorem Ia {K:bh} {a:Addr} 
  (Pv:Nat->List V->Hp->Prop) (h0:Pv 0 [] (upd H D (.lst [])))
  (hl:∀ i ys H,i<=xs.length->Pv i ys H->SqT K H a xs/\H D=some (.lst ys)/\ys.length<sizeLine)
  (hs:∀ i ys H x,xs[i]? = some x->Pv i ys H->tt (jL σ (some x) caps) H fun b H2=>if b=true then te (jL σ (some x) caps) H2 fun y H3=>H3 D=some (.lst ys)/\Pv (i+1) (ys++[y]) (upd H3 D (.lst (ys++[y]))) else H2 D=some (.lst ys)/\Pv (i+1) ys H2)
  (hd:∀ ys H,Pv xs.length ys H->Q (.ref D) H)
  (mT:∀ σ H (R R':Bool->Hp->Prop),(∀ b H,R b H->R' b H)->tt σ H R->tt σ H R')
  (mE:∀ σ H (Q Q':VK),(∀ y H,Q y H->Q' y H)->te σ H Q->te σ H Q'):vq (Itt K a) caps tt te σ D Q H:=by
 refine ⟨fun i m ys G=>m=xs.length-i/\i<=xs.length/\Pv i ys G,⟨xs.length,rfl,cB _,h0⟩,?_⟩
 rintro i m ys G ⟨rfl,hi,p⟩
 obtain ⟨sq,q,z⟩:=hl i ys G hi p
 refine ⟨q,?_⟩
 rcases jW i xs.length with lt | ge
 ·refine .inr ⟨⟨xs,xs[i],sq,gR lt⟩,z,fun x G' y=>?_⟩
  obtain ⟨rfl,y⟩:=y
  refine mT _ _ _ _ (fun b G2 hb=>?_) (hs i ys _ x (y xs sq) p)
  cases b with
  | true =>
   rw [if_pos rfl] at hb ⊢
   exact mE _ _ _ _ (fun y G3 ⟨a,b⟩=>⟨a,xs.length-(i+1),by lia,rfl,lt,b⟩) hb
  | false =>
   rw [if_neg (by decide)] at hb ⊢
   exact ⟨hb.1,xs.length-(i+1),by lia,rfl,lt,hb.2⟩
 ·obtain rfl:i=xs.length:=by lia
  exact .inl ⟨⟨xs,sq,bV _⟩,hd ys G p⟩
section
variable {e se:Expr} {lo hi:Option Expr} {tl th ts:TO} {p2 pos:Pos}
noncomputable def yw {α:Type} (xs:List α) (lo hi:Option Int):List α :=
 (sliceRange (jr lo hi (some 2) xs.length).1 (jr lo hi (some 2) xs.length).2.1 (jr lo hi (some 2) xs.length).2.2).filterMap (xs[·]?)
noncomputable def rSl2 (K:bh):V->Option Int->Option Int->Hp->VK->Prop:=fun x lo hi H Q=>∃ a xs,x = .ref a/\SqL K H a xs/\∀ p,H p=none->Q (.ref p) (upd H p (.lst (yw xs lo hi)))
noncomputable def tSl2 (K:bh) (te:TE) (tl th ts:TO):TE:=fun σ H Q=>te σ H fun x H1=>tl σ H1 fun l H2=>th σ H2 fun u H3=>ts σ H3 fun t H4=>t=some 2/\rSl2 K x l u H4 Q
theorem ag1:∀ {xs:List V} {us:List Value},Vals xs us->∀ ks:List Nat,Vals (ks.filterMap (xs[·]?)) (ks.filterMap (us[·]?)):=by
 intro xs us r ks
 induction ks with
 | nil=>exact .nil
 | cons k ks ih =>
  rw [CW,CW]
  rcases jW k xs.length with h | h
  ·obtain ⟨u,eu,ru⟩:=r.get (gR h)
   rw [gR h,eu]
   exact .cons ru ih
  ·rw [yN h,yN (by rw [<- r.length];exact h)]
   exact ih
theorem afl {α:Type} (xs:List α) (lo hi:Option Int):(yw xs lo hi).length<=xs.length:=by
 have:=slicePick_size_le (Array.replicate xs.length Value.none) lo hi (some 2)
 rw [acO] at this
 unfold Fw at this
 rw [dY,acO] at this
 refine iC (M6 ?_) this
 unfold yw
 rw [abO,abO]
 apply List.countP_congr
 intro k _
 simp [Array.getElem?_replicate]
theorem aaP (he:PE X e te) (hl:PO X lo tl) (hu:PO X hi th) (hs:PO X (some se) ts):PE X (.Subscript e (.Slice lo hi (some se) p2) pos) (tSl2 X.K te tl th ts):=by
 walk_at "k"
 refine U9 (thn (he pins s σ H _ I h) fun v s1 ⟨x,H1,I1,r1,q1⟩=>?_)
 refine wpAny_Slice (thn (hl pins s1 σ H1 _ I1 q1) fun vl s2 ⟨l,H2,I2,pl,q2⟩=>thn (hu pins s2 σ H2 _ I2 q2) fun vu s3 ⟨u,H3,I3,pu,q3⟩=>thn (hs pins s3 σ H3 _ I3 q3) fun vs s4 ⟨t,H4,I4,pt,q4⟩=>?_)
 obtain ⟨rfl,a,xs,rfl,hx,q⟩:=q4
 cases r1
 have I5:Inv X pins σ H4 { s4 with heap:=s4.heap.push { cls:=.type "slice",data:=.fields #[vl,vu,vs] } }:=I4.kept (t':=s4.toks) fun b ob q=>dR _ q
 obtain ⟨its,r,ht,hz⟩:=I5.list hx
 have hlen:=r.length
 show wpAny (model X.prog X.w) X.A (Nj e (.Slice lo hi (some se) p2) (.ref a) (.ref s4.heap.objs.size)) (EP X pins σ Q) X.xe { s4 with heap:=s4.heap.push { cls:=.type "slice",data:=.fields #[vl,vu,vs] } }
 refine tail_any (ops:=[.ref a,.ref s4.heap.objs.size]) ht.isList.typeIs Sw.lookup ?_ (by with_unfolding_all rfl)
 refine abh ht.isList (adS ..) pl pu pt (by simp) ?_ (by rw [dY];lia)
 have ec:Fw its.toArray l u (some 2)=(yw its l u).toArray:=by
  unfold Fw yw
  rw [dY]
  simp only [TJ]
 rw [ec]
 refine ⟨.ref _,_,I5.laid (t':=s4.toks) (o:=.lst (yw xs l u)) (fun b ob q=>dR _ q) (bV _) ?_,rfl,q _ (I5.hok.fresh (bV _))⟩
 refine ⟨iC (afl xs l u) hz,_,0,?_,eE _ rfl⟩
 unfold yw
 rw [<- hlen]
 exact ag1 r _
end
theorem aaQ {ns:List Int} {t:Int} (ht:t=0\/t=1):yw (ns.map V.int) (some t) (some ((ns.length:Int)-(ns.length:Int) % 2))=(RG.pick (decide (t=1)) ns).map V.int:=by
 have hp:∀ (ns:List Int) (o:Bool),RG.pick o ns=(mZ (ns.length / 2)).filterMap fun k=>ns[(if o then 1 else 0)+2*k]?:=by
  intro ns o
  fun_induction RG.pick o ns with
  | case1 a b r ih =>
   have e:(a::b::r).length / 2=r.length / 2+1:=by simp only [iY];lia
   have sh:(fun k=>(a::b::r)[(if o=true then 1 else 0)+2*k]?) ∘ Nat.succ=fun k=>r[(if o=true then 1 else 0)+2*k]?:=by
    funext k
    show (a::b::r)[(if o=true then 1 else 0)+2*(k+1)]? = _
    rw [show (if o=true then 1 else 0)+2*(k+1)=(if o=true then 1 else 0)+2*k+1+1 by lia,Tz,Tz]
   rw [ih,e,List.range_succ_eq_map,CW,ab5,sh]
   cases o <;> rfl
  | case2 l h =>
   match l,h with
   | [],_=>rfl
   | [x],_=>simp
   | a::b::r,h=>exact absurd rfl (h a b r)
 unfold yw
 rw [hp,ab4]
 have hn:(ns.map V.int).length=ns.length:=bA _
 rw [hn]
 have b1:(jr (some t) (some ((ns.length:Int)-(ns.length:Int) % 2)) (some 2) ns.length).1=min t ns.length:=by
  rcases ht with rfl | rfl <;> simp [jr] <;> lia
 have b2:(jr (some t) (some ((ns.length:Int)-(ns.length:Int) % 2)) (some 2) ns.length).2.1=(ns.length:Int)-(ns.length:Int) % 2:=by
  simp [jr];lia
 have b3:(jr (some t) (some ((ns.length:Int)-(ns.length:Int) % 2)) (some 2) ns.length).2.2=2:=rfl
 rw [b1,b2,b3]
 unfold sliceRange
 rw [ab5]
 have cnt:(if (2:Int)>0 then (if min t ns.length<(ns.length:Int)-(ns.length:Int) % 2 then ((ns.length:Int)-(ns.length:Int) % 2-min t ns.length+2-1) / 2 else 0) else (if min t ns.length>(ns.length:Int)-(ns.length:Int) % 2 then (min t ns.length-((ns.length:Int)-(ns.length:Int) % 2)-2-1) / (-2) else 0)).toNat=ns.length / 2:=by
  rw [if_pos (by decide)]
  split
  ·rcases ht with rfl | rfl <;> lia
  ·rcases ht with rfl | rfl <;> lia
 rw [cnt]
 have fm:∀ (ks:List Nat) (f g:Nat->Option V),(∀ k∈ks,f k=g k)->ks.filterMap f=ks.filterMap g:=by
  intro ks f g
  induction ks with
  | nil=>intro _;rfl
  | cons k r ih =>
   intro h
   rw [CW,CW,h k cZ,ih fun j hj=>h j (gk _ hj)]
 refine fm _ _ _ fun k hk=>?_
 have hk:=Mv.mp hk
 show (ns.map V.int)[(min t ns.length+2*(k:Int)).toNat]? = _
 have:(min t ns.length+2*(k:Int)).toNat=(if decide (t=1) then 1 else 0)+2*k:=by
  rcases ht with rfl | rfl
  ·simp;lia
  ·simp;lia
 rw [this,iB]
noncomputable def Itv (K:bh) (a:Addr) (n:Nat):It :=
 ⟨fun i H=>∃ xs,SqL K H a xs/\xs.length=n/\i<n,fun i H x H'=>H'=H/\∀ xs,SqL K H a xs->xs[n-1-i]? = some x,fun i _=>n<=i⟩
theorem afm {P:aN} {K:bh} (a it:Addr) (n:Nat):Turn P w K tg (Itv K a n) [it] it (fun i h=>i<=n/\h.IsRevIter it a ((n:Int)-1-i)) where
 mem:=by simp
 obj:=fun i h st b hb=>by
  have e:b=it:=by simpa using hb
  subst e
  obtain ⟨_,o,e,c,d⟩:=st
  exact ⟨o,e,fun v z=>by rw [d] at z;cases z⟩
 keep:=fun i h h' st k=>⟨st.1,st.2.at fun o e=>k it (by simp) o e⟩
 item:=by
  walk_at "i"
  subst hP hw hK
  obtain ⟨xs,hq,hn,hi⟩:=hg
  obtain ⟨its,rv,p,hz⟩:=I.list hq
  have hx:xs[n-1-i]? = some (xs[n-1-i]'tb_g%):=gR tb_g%
  obtain ⟨u,hu,ru⟩:=rv.get hx
  k_dat it "j"
  have st2:=st.2
  rw [show (n:Int)-1-i=((n-1-i:Nat):Int) by lia] at st2
  refine wpAny_pyNext_rev_item st2 p.isList (x:=u) (by simpa using hu) fun h' st' sb=>?_
  rw [show ((n-1-i:Nat):Int)-1=(n:Int)-1-((i+1:Nat):Int) by lia] at st'
  have I1:Inv X pins σ H { s with heap:=h' }:=I.turned (t':=s.toks) (fun b o hb e=>(sb.2 b hb).trans e) f0 f1 f3 f4 f5
  obtain ⟨o,e,c,d⟩:=id st'
  exact ⟨u,rfl,Y7 (s:={ s with heap:=h' }) e c d (by decide) ⟨_,H,I1,ru,⟨rfl,fun ys hy=>by rw [I.QB hy hq];exact hx⟩,⟨hi,st'⟩,fun b hb=>(hf b hb).1⟩⟩
 done:=by
  walk_at "i"
  subst hP hw hK
  have hle:n<=i:=hg
  have e:i=n:=Nat.le_antisymm st.1 hle
  subst e
  k_dat it "j"
  have st2:=st.2
  rw [show (i:Int)-1-i = -1 by lia] at st2
  exact wpAny_pyNext_rev_end (I.ok.hd hc) st2 fun h' eb=>⟨rfl,I.turned (t':=s.toks) (fun b o hb e=>eb b o hb e) f0 f1 f3 f4 f5⟩
 self:=fun _ _ _ _ _ st h=>Sv st.2 h
noncomputable def iRev (K:bh) (ta:TA):TI:=fun σ H R=>ta σ H fun vs H1=>∃ a xs,vs=[.ref a]/\SqL K H1 a xs/\R (Itv K a xs.length) H1
theorem aj4 {a:Expr} {pos:Pos} (hg:Gl X "reversed") (hm:X.mg "reversed" = none) (ha:PA X [a] ta) (hs:dM [a] X.env=[(false,eval a X.env)]:=by rfl) :
  PI X tg (.Call (.Name "reversed" p) [a] [] pos) (iRev X.K ta):=by
 intro pins s σ H R I h
 refine Call_ (nA I hg hm ac0 (Gq (thn (ha pos pins s σ H _ I h) fun us s1 ⟨vs,H1,I1,r1,q1⟩=>?_) hs rfl))
 obtain ⟨l,xs,e,hq,q⟩:=q1
 subst e
 obtain ⟨u,rfl,ru⟩:=vals1 r1
 cases ru
 obtain ⟨its,rv,pl,hz⟩:=I1.list hq
 have hlen:=rv.length
 refine abp pl.isList ?_
 have el:((its.toArray.size:Nat):Int)-1=(xs.length:Int)-1-((0:Nat):Int):=by rw [dY];lia
 refine Sv ⟨_,eE _ rfl,rfl,rfl⟩ ⟨_,[s1.heap.objs.size],_,Itv X.K l xs.length,H1,rfl,I1.kept (t':=s1.toks) fun b o e=>dR _ e,afm l _ _,⟨cB _,_,eE _ rfl,rfl,by rw [<- el];rfl⟩,fun b hb=>?_,q⟩
 have e:b=s1.heap.objs.size:=by simpa using hb
 subst e
 exact I1.aah (bV _) (I1.hok.fresh (bV _))
theorem ag2 {K:bh} {a:Addr} {tb:TS} {D:Ends} (Pv:Nat->St->Hp->Prop) (h0:Pv 0 σ H) (hl:∀ i σ H,i<=xs.length->Pv i σ H->SqL K H a xs)
  (hs:∀ i x σ H,xs.reverse[i]? = some x->Pv i σ H->g x σ H fun σ2 H2=>tb { D with nx:=Pv (i+1),ct:=Pv (i+1),bk:=D.nx } σ2 H2) (hd:∀ σ H,Pv xs.length σ H->D.nx σ H) :
  ∃ W:Nat->Nat->St->Hp->Prop,(∃ m,W 0 m σ H)/\∀ i m σ H,W i m σ H ->
   ((Itv K a xs.length).stop i H/\D.nx σ H)\/((Itv K a xs.length).go i H/\∃ N:St->Hp->Prop,(∀ σ' H',N σ' H'->∃ m',m'<m/\W (i+1) m' σ' H')/\∀ x H',(Itv K a xs.length).yld i H x H'->g x σ H' fun σ2 H2=>tb { D with nx:=N,ct:=N,bk:=D.nx } σ2 H2):=by
 refine ⟨fun i m σ H=>m=xs.length-i/\i<=xs.length/\Pv i σ H,⟨xs.length,by simp,cB _,h0⟩,?_⟩
 rintro i m σ H ⟨rfl,hi,p⟩
 have q:=hl i σ H hi p
 by_cases hlt:i<xs.length
 ·refine .inr ⟨⟨xs,q,rfl,hlt⟩,Pv (i+1),fun σ' H' p'=>⟨xs.length-(i+1),by lia,rfl,hlt,p'⟩,fun x H' y=>?_⟩
  obtain ⟨rfl,hx⟩:=y
  exact hs i x σ H' (by rw [abY hlt];exact hx xs q) p
 ·have e:i=xs.length:=by lia
  subst e
  exact .inl ⟨bV _,hd σ H p⟩
theorem Yo:Ly (.type "list_reverseiterator") "__len__" = pure none:=by rw [Lh,K9];kernel_rfl
theorem afn:Ly (.type "list_reverseiterator") "__length_hint__" = pure (some (.builtin "list_reverseiterator.__length_hint__")):=by rw [Lh,K9];kernel_rfl
section
variable {prog:aN} {E:Value->Shared->Prop} {r l:Addr}
theorem afo {Q:Bool->Shared->Prop} (ty:s.TypeIs (.ref r) "list_reverseiterator") (h:Q false s):wpAny (model prog w) A (Nx (.ref r)) Q E s:=by
 unfold Nx
 refine aG (Lg ty Yo ?_)
 wp_delta
 refine qO (fun q=>absurd q (by decide)) fun _=>?_
 refine qO (fun q=>absurd q (by decide)) fun _=>?_
 refine aG (Lg ty afn ?_)
 generalize hid:("list_reverseiterator.__length_hint__" : String)=nm
 wp_delta
 rw [show splitId nm=some ("list_reverseiterator","__length_hint__") from by rw [<- hid];decide +kernel]
 subst hid
 refine aG (Le (T := "list_reverseiterator") (b:=true) ty (by rw [Lj];kernel_rfl) ?_)
 refine qO (fun q=>absurd q (by decide)) fun _=>?_
 refine qO (fun _=>?_) fun q=>absurd tb_g% q
 refine qO (fun q=>absurd q tb_g%) fun _=>?_
 exact bH h
noncomputable def Behind (items:Array Value) (i:Nat) (v:Value):Prop:=items[items.size-1-i]? = some v
theorem afp (hh:A.handled=none) (hr:s.heap.IsRevIter r l ((items.size:Int)-1)) (hl:s.heap.IsList l items) (hrl:l≠r) (S:Addr) (n1:S≠r) (n2:S≠l) (res:Value) (c:Nat)
  (hS:s.heap.get? S=some { cls:=.type "list",data:=.seq #[] c }) (hz:items.size<=sizeLine)
  (hR:∀ h' tk acc d,(∀ b o,b≠S->b≠r->s.heap.get? b=some o->h'.get? b=some o)->h'.get? S=some { cls:=.type "list",dict:=none,data:=.seq acc d,slots:=#[] }->ItemsOf (Behind items) acc items.size->R (.ok (.ret res)) { s with heap:=h',toks:=tk }) :
  wpAny (model prog w) A.in1 (JN (.ref S) (.ref r) res) (fun fin t=>match fin with | .done f=>R (.ok f) t | .again k=>k.quiet=true/\gj (model prog w) A k R t) (fun e t=>R (.error e) t) s:=by
 have W:=Walks.listRev (prog:=prog) (w:=w) (A:=A.in1) hh r l hrl items
 have away:S∉[r,l]:=by
  simp only [cU,jd,or_false,not_or]
  exact ⟨n1,n2⟩
 unfold JN
 refine aG (S7 (T := "list_reverseiterator") hr.typeIs ?_)
 have e1:Ny (.ref S) (.ref r)=false:=by simp [Ny,n1]
 have e2:(Value.type "list_reverseiterator" == Value.type "list")=false:=by decide
 have e3:(Value.type "list_reverseiterator" == Value.type "tuple")=false:=by decide
 simp only [e1,e2,e3,Bool.or_false,uz,if_false]
 refine aG (Sv hr ?_)
 refine aG (jR (afo hr.typeIs ?_))
 refine qO (fun q=>absurd q (by decide)) fun _=>bH ⟨oN PySem.F.plain_extend_loop _,?_⟩
 refine abn W.toS hz S away res items.size 0 _ #[] c rfl (cB _) ⟨cB _,by simpa using hr,hl⟩ hS (ad1 _) fun t acc d hm hS2 hacc=>?_
 rw [Moved.eq_with hm]
 refine hR t.heap t.toks acc d (fun b o hb hb2 e=>hm.heap b o (fun m=>?_) e) hS2 hacc
 rcases cU.mp m with q | q
 ·exact hb q
 ·exact hb2 (d8.mp q)
theorem afq (hh:A.handled=none) (hr:s.heap.IsRevIter r l ((items.size:Int)-1)) (hl:s.heap.IsList l items) (hrl:l≠r) (S:Addr) (n1:S≠r) (n2:S≠l)
  (hS:s.heap.get? S=some { cls:=.type "list",data:=.seq #[] }) (hz:items.size<=sizeLine)
  (hR:∀ h' tk acc d,(∀ b o,b≠S->b≠r->s.heap.get? b=some o->h'.get? b=some o)->h'.get? S=some { cls:=.type "list",dict:=none,data:=.seq acc d,slots:=#[] }->ItemsOf (Behind items) acc items.size->R (.ok (.ret .none)) { s with heap:=h',toks:=tk }) :
  wpAny (model prog w) A.in1 (gh.«list.__init__» ⟨[.ref S,.ref r],[]⟩) (fun fin t=>match fin with | .done f=>R (.ok f) t | .again k=>k.quiet=true/\gj (model prog w) A k R t) (fun e t=>R (.error e) t) s:=by
 show wpAny _ _ (do let was <- adp (.ref S);aiH (.ref S) (fun _=>#[]);letGo was.toList.reverse;JN (.ref S) (.ref r) .none) _ _ s
 refine aG ?_
 unfold adp
 refine aG (qQ hS rfl (bH ?_))
 show wpAny _ _ (Tt S (fun _=>#[]) >>= fun _=>letGo (#[]:Array Value).toList.reverse >>= fun _=>JN (.ref S) (.ref r) Value.none) _ _ s
 refine aG (qP hS rfl ?_)
 have hS2:=yO (gU (fun _=>(#[]:Array Value))) hS rfl
 have rest:∀ b o,b≠S->s.heap.get? b=some o->(s.heap.update S (gU (fun _=>(#[]:Array Value)))).get? b=some o:=fun b o n e=>(m8 _ _ (aK n)).trans e
 refine aG (qR ?_)
 refine afp hh (hr.at fun o e=>rest r o (aK n1) e) (hl.at fun o e=>rest l o (aK n2) e) hrl S n1 n2 .none _ hS2 hz fun h' tk acc d hk hS3 hacc=>?_
 exact hR h' tk acc d (fun b o n m e=>hk b o n m (rest b o n e)) hS3 hacc
theorem afr {Q:Value->Shared->Prop} (hh:A.handled=none) (hr:s.heap.IsRevIter r l ((items.size:Int)-1)) (hl:s.heap.IsList l items) (hrl:l≠r) (hz:items.size<=sizeLine)
  (hQ:∀ h' tk acc d,(∀ b o,b≠r->s.heap.get? b=some o->h'.get? b=some o)->h'.get? s.heap.objs.size=some { cls:=.type "list",dict:=none,data:=.seq acc d,slots:=#[] }->ItemsOf (Behind items) acc items.size->Q (.ref s.heap.objs.size) { s with heap:=h',toks:=tk }) :
  wpAny (model prog w) A (call (.type "list") [.ref r]) Q E s:=by
 refine callType_codes (Q₁:=fun o t=>o = .ref s.heap.objs.size/\t={ s with heap:=s.heap.push { cls:=.type "list",data:=.seq #[] } }) PySem.F.called_list (PySem.F.typeCall_list_1 _) PySem.F.entry_list_init (code_list_new _ ⟨rfl,rfl⟩) fun o t ht=>?_
 obtain ⟨rfl,rfl⟩:=ht
 have hS:(s.heap.push { cls:=.type "list",data:=.seq #[] }).get? s.heap.objs.size=some { cls:=.type "list",data:=.seq #[] }:=eE _ rfl
 obtain ⟨o1,g1,_⟩:=id hr
 obtain ⟨o2,g2,_⟩:=id hl
 refine ⟨⟨_,hS,rfl⟩,PySem.F.args_list_init_2 _ _,afq (A:=A.in1) hh (hr.at fun o e=>dR _ e) (hl.at fun o e=>dR _ e) hrl _ (qW (bR g1)) (qW (bR g2)) hS hz fun h' tk acc d hk hS2 hacc=>?_⟩
 exact ⟨rfl,hQ h' tk acc d (fun b o n e=>hk b o (cO (bR e)) n (dR _ e)) hS2 hacc⟩
theorem ZL:∀ {xs:List V} {us:List Value},us.length=xs.length->(∀ (j:Nat) (x:V) (u:Value),xs[j]? = some x->us[j]? = some u->RelV x u)->Vals xs us
 | [],[],_,_=>.nil
 | [],_::_,h,_=>by cases h
 | _::_,[],h,_=>by cases h
 | x::xs,u::us,h,k=>.cons (k 0 x u rfl rfl) (ZL (by simpa using h) fun j y v hy hv=>k (j+1) y v (by simpa using hy) (by simpa using hv))
end
section
variable {l:Expr} {tl:TE} {p' pos pos':Pos}
noncomputable def afs (K:bh) (ta:TA):TE:=fun σ H Q=>ta σ H fun vs H1=>∃ a xs,vs=[.ref a]/\SqL K H1 a xs/\∀ q,H1 q=none->Q (.ref q) (upd H1 q (.lst xs.reverse))
theorem Yp (hm0:X.mg "list" = none) (hm1:X.mg "reversed" = none) (ha:PA X [l] ta) (hc:X.calm=true) (hg0:Gl X "list" := by rfl) (hg1:Gl X "reversed" := by rfl)
  (he:dM [.Call (.Name "reversed" p') [l] [] pos'] X.env=[(false,eval (.Call (.Name "reversed" p') [l] [] pos') X.env)]:=by rfl) (hs:dM [l] X.env=[(false,eval l X.env)]:=by rfl) :
  PE X (.Call (.Name "list" p) [.Call (.Name "reversed" p') [l] [] pos'] [] pos) (afs X.K ta):=by
 walk_at "k"
 refine Call_ (nA I hg0 hm0 boot_list (Gq ?_ he rfl))
 rw [he]
 refine uE (Call_ (nA I hg1 hm1 ac0 (Gq (thn (ha pos' pins s σ H _ I h) fun us s1 ⟨vs,H1,I1,r1,q1⟩=>?_) hs rfl)))
 obtain ⟨a,xs,e,hq,q⟩:=q1
 subst e
 obtain ⟨u,rfl,ru⟩:=vals1 r1
 cases ru
 obtain ⟨its,rv,pl,hz⟩:=I1.list hq
 have hlen:=rv.length
 refine abp pl.isList (xV ?_)
 show wpAny _ _ (call (.type "list") [.ref s1.heap.objs.size]) _ _ _
 have hla:a≠s1.heap.objs.size:=by
  obtain ⟨o,g,_⟩:=pl.isList
  exact cO (bR g)
 refine afr (items:=its.toArray) (I1.ok.hd hc) ⟨_,eE _ rfl,rfl,rfl⟩ (pl.isList.at fun o e=>dR _ e) hla (by rw [dY];lia) fun h' tk acc d hk hS hacc=>?_
 have kp:∀ b o,s1.heap.get? b=some o->h'.get? b=some o:=fun b o e=>hk b o (cO (bR e)) (dR _ e)
 have hsz:(s1.heap.push (revObj a ((its.toArray.size:Int)-1))).objs.size=s1.heap.objs.size+1:=Bu _ _
 have rr:Vals xs.reverse acc.toList:=ZL (by rw [fU,hacc.1,dY,Bh];lia) fun j x u hx hu=>by
  have hj:j<xs.length:=by
   have:=(fQ.mp hx).1
   rwa [Bh] at this
  rw [abY hj] at hx
  have hb:Behind its.toArray j u:=hacc.2 j u (by rw [<- iD];exact hu)
  unfold Behind at hb
  rw [dY,<- hlen] at hb
  obtain ⟨v,hv,rvv⟩:=rv.get hx
  have:u=v:=dB (hb.symm.trans (by simpa using hv))
  rw [this];exact rvv
 refine ⟨.ref _,_,I1.laid (a:=(s1.heap.push (revObj a ((its.toArray.size:Int)-1))).objs.size) (o:=.lst xs.reverse) (t':=tk) kp (by rw [hsz];exact m9 _) ?_,rfl,q _ (I1.hok.fresh (by rw [hsz];exact m9 _))⟩
 exact ⟨by rw [Bh];lia,acc.toList,d,rr,by first | (rw [Uz];exact hS) | simpa using hS⟩
end
section
variable {h':Heap}
theorem Inv.aaR {t:Addr} {o:HO} (I:Inv X pins σ H s) (k:∀ b u,b∉ch->s.heap.get? b=some u->h'.get? b=some u) (hf:∀ b∈ch,vQ X pins H b) (ht:s.heap.objs.size<=t)
  (new:eG X.prog X.w (upd H t o) h' t o):Inv X pins σ (upd H t o) { s with heap:=h',toks:=t' }:=by
 have nit:∀ b u,H b=some u->b∉ch:=fun b u e z=>by rw [(hf b z).1] at e;cases e
 have ntt:H t=none:=I.hok.fresh ht
 have lt:∀ b u,s.heap.get? b=some u->b≠t:=fun b u e=>cO (gF (bR e) ht)
 refine I.step (g':=s.gens) (d':=s.drawn) (ch:=ch) (fun b hb=>⟨(hf b hb).2.2.2.1,(hf b hb).2.1,(hf b hb).2.2.2.2.1,(hf b hb).2.2.2.2.2⟩) (fun b o _ _ hc e _=>k b o hc e) (fun b o _ _ hc e _=>⟨o.slots,k b o hc e⟩) (fun b u _ e n=>by rw [au (lt b u e)];exact n)
  (fun b o hc e=>⟨o,k b o hc e⟩) (fun b xs e=>by rw [au (ak e ntt)];exact e) (fun b q u e=>by rw [au (ak e ntt)];exact e) (fun b ps e=>⟨#[],by rw [au (ak e ntt),e];simp⟩) (fun m hm=>?_) (fun b u e=>?_) I.bare
 ·obtain ⟨o,es,ep,ho,r⟩:=hm
  exact ⟨o,es,ep,k _ o (fun z=>(hf _ z).2.1 rfl) ho,r⟩
 ·by_cases hb:b=t
  ·subst hb;rw [aj] at e;cases e;exact new
  ·rw [au hb] at e
   refine (I.hok b u e).stay (fun c v hc q=>k c v ?_ q) (fun c q=>by rw [au (ak q ntt)];exact q) fun c xs q=>by rw [au (ak q ntt)];exact q
   rcases hc with z | z
   ·rw [z];exact nit b u e
   ·exact nit c _ z
theorem Inv.ag3 (I:Inv X pins σ H s) (k:∀ b u,b∉ch->s.heap.get? b=some u->h'.get? b=some u) (hf:∀ b∈ch,vQ X pins H b):Inv X pins σ H { s with heap:=h',toks:=t' }:=by
 have nit:∀ b u,H b=some u->b∉ch:=fun b u e z=>by rw [(hf b z).1] at e;cases e
 refine I.step (g':=s.gens) (d':=s.drawn) (ch:=ch) (fun b hb=>⟨(hf b hb).2.2.2.1,(hf b hb).2.1,(hf b hb).2.2.2.2.1,(hf b hb).2.2.2.2.2⟩) (fun b o _ _ hc e _=>k b o hc e) (fun b o _ _ hc e _=>⟨o.slots,k b o hc e⟩) (fun b u _ _ n=>n)
  (fun b o hc e=>⟨o,k b o hc e⟩) (fun _ _ e=>e) (fun _ _ _ e=>e) (fun b ps e=>⟨#[],by rw [e];simp⟩) (fun m hm=>?_) (fun b u e=>?_) I.bare
 ·obtain ⟨o,es,ep,ho,r⟩:=hm
  exact ⟨o,es,ep,k _ o (fun z=>(hf _ z).2.1 rfl) ho,r⟩
 ·refine (I.hok b u e).stay (fun c v hc q=>k c v ?_ q) (fun _ q=>q) fun _ _ q=>q
  rcases hc with z | z
  ·rw [z];exact nit b u e
  ·exact nit c _ z
end
noncomputable def Itz (a b:Addr):It :=
 ⟨fun i H=>∃ xs ys,H a=some (.lst xs)/\H b=some (.lst ys)/\i<xs.length/\i<ys.length,
  fun i H x H'=>∃ t u v xs ys,H a=some (.lst xs)/\H b=some (.lst ys)/\xs[i]? = some u/\ys[i]? = some v/\H t=none/\x = .ref t/\H'=upd H t (.tup [u,v]),
  fun i H=>∃ xs ys,H a=some (.lst xs)/\H b=some (.lst ys)/\(xs.length<=i\/ys.length<=i)⟩
theorem ahY {c z TI TO i1 i2:Addr} (h:c∈[z,TO,i1,i2]):c∈[z,TI,TO,i1,i2]:=by
 simp only [cU,jd,or_false] at h ⊢
 rcases h with h | h | h | h <;> simp [h]
structure Z5 (z TI TO i1 i2:Addr):Prop where
 a:TI≠z
 b:TO≠z
 c:i1≠z
 d:i2≠z
 e:TI≠TO
 f:TI≠i1
 g:TI≠i2
 h:TO≠i1
 i:TO≠i2
 j:i1≠i2
theorem Z5.apart {z TI TO i1 i2 a b:Addr} (k:Z5 z TI TO i1 i2) {ys:List V} (ha:H a=some (.lst xs)) (hb:H b=some (.lst ys)) (f:∀ c∈[z,TI,TO,i1,i2],H c=none):ZipApart z TI TO i1 i2 a b :=
 ⟨k.a,k.b,k.c,k.d,k.e,k.f,k.g,k.h,k.i,k.j,ak ha (f z (by simp)),ak ha (f TO (by simp)),ak ha (f i1 (by simp)),ak ha (f i2 (by simp)),ak hb (f z (by simp)),ak hb (f TO (by simp)),ak hb (f i1 (by simp)),ak hb (f i2 (by simp))⟩
theorem z5_of (n:Nat):Z5 (n+4) (n+2) (n+3) n (n+1) :=
 ⟨(show ¬ (n+2:Nat)=n+4 by lia),(show ¬ (n+3:Nat)=n+4 by lia),(show ¬ (n:Nat)=n+4 by lia),(show ¬ (n+1:Nat)=n+4 by lia),(show ¬ (n+2:Nat)=n+3 by lia),(show ¬ (n+2:Nat)=n by lia),(show ¬ (n+2:Nat)=n+1 by lia),(show ¬ (n+3:Nat)=n by lia),(show ¬ (n+3:Nat)=n+1 by lia),(show ¬ (n:Nat)=n+1 by lia)⟩
theorem aft {P:aN} {K:bh} {x1} (a b z TI TO i1 i2:Addr) (k5:Z5 z TI TO i1 i2) :
  Turn P w K (.Tuple elts x1 tpos) (Itz a b) [z,TI,TO,i1,i2] z (fun i h=>IsZip h z TI TO .none/\IsPair h TI (.ref i1) (.ref i2)/\(∃ u v,IsPair h TO u v)/\h.IsListIter i1 a i/\h.IsListIter i2 b i) where
 mem:=by simp
 obj:=fun i h st c hc=>by
  obtain ⟨hz,hTI,⟨u,v,hTO⟩,⟨o1,h1,_,d1⟩,⟨o2,h2,_,d2⟩⟩:=st
  simp only [cU,jd,or_false] at hc
  rcases hc with rfl | rfl | rfl | rfl | rfl
  ·exact ⟨_,hz,fun v z=>by cases z⟩
  ·exact ⟨_,hTI,fun v z=>by cases z⟩
  ·exact ⟨_,hTO,fun v z=>by cases z⟩
  ·exact ⟨_,h1,fun v z=>by rw [d1] at z;cases z⟩
  ·exact ⟨_,h2,fun v z=>by rw [d2] at z;cases z⟩
 keep:=fun i h h' st k=>by
  obtain ⟨hz,hTI,⟨u,v,hTO⟩,⟨o1,h1,r1⟩,⟨o2,h2,r2⟩⟩:=st
  exact ⟨k z (by simp) _ hz,k TI (by simp) _ hTI,⟨u,v,k TO (by simp) _ hTO⟩,⟨o1,k i1 (by simp) _ h1,r1⟩,⟨o2,k i2 (by simp) _ h2,r2⟩⟩
 item:=by
  walk_at "i"
  subst hP hw hK
  obtain ⟨hz,hTI,⟨pa,pb,hTO⟩,h1,h2⟩:=st
  obtain ⟨xs,ys,ea,eb,li,lj⟩:=hg
  obtain ⟨_,us,n,rv,_,gl⟩:=I.Ou ea
  obtain ⟨_,vs,m,rw',_,gr⟩:=I.Ou eb
  have ex:xs[i]? = some xs[i]:=gR li
  have ey:ys[i]? = some ys[i]:=gR lj
  obtain ⟨u,hu,ru⟩:=rv.get ex
  obtain ⟨v,hv,rv'⟩:=rw'.get ey
  have D:=k5.apart ea eb fun c hc=>(hf c hc).1
  refine wpAny_pyNext_zip_item D hz hTI hTO h1 h2 ⟨_,gl,rfl,n,rfl⟩ ⟨_,gr,rfl,m,rfl⟩ (by simpa using hu) (by simpa using hv) fun h' a1 a2 a3 a4 a5 a6 hk=>?_
  have nt:H s.heap.objs.size=none:=I.hok.fresh (bV _)
  have hf4:∀ c∈[z,TO,i1,i2],vQ X pins H c:=fun c hc=>hf c (ahY hc)
  have I1:Inv X pins σ (upd H s.heap.objs.size (.tup [xs[i],ys[i]])) { s with heap:=h' }:=I.aaR (t':=s.toks) (ch:=[z,TO,i1,i2])
   (fun c o hc e=>hk c o (fun q=>hc (by simp [q])) (fun q=>hc (by simp [q])) (fun q=>hc (by simp [q])) (fun q=>hc (by simp [q])) e) hf4 (bV _)
   ⟨by show 2<=sizeLine;decide,[u,v],.cons ru (.cons rv' .nil),⟨_,a5,rfl,_,rfl⟩⟩
  have lts:∀ c∈[z,TI,TO,i1,i2],c≠s.heap.objs.size:=fun c hc=>by
   have:∃ o,s.heap.get? c=some o:=by
    obtain ⟨o1,g1,_⟩:=h1
    obtain ⟨o2,g2,_⟩:=h2
    simp only [cU,jd,or_false] at hc
    rcases hc with rfl | rfl | rfl | rfl | rfl
    ·exact ⟨_,hz⟩
    ·exact ⟨_,hTI⟩
    ·exact ⟨_,hTO⟩
    ·exact ⟨_,g1⟩
    ·exact ⟨_,g2⟩
   obtain ⟨o,e⟩:=this
   exact cO (bR e)
  have fr1:∀ c∈[z,TI,TO,i1,i2],(upd H s.heap.objs.size (.tup [xs[i],ys[i]])) c=none:=fun c hc=>by rw [au (lts c hc)];exact (hf c hc).1
  refine ⟨.ref s.heap.objs.size,rfl,wpAny_letOwnedTupleGo_zip a1 fun h2' hz' hs'=>?_⟩
  k_dat z "j"
  refine ⟨.ref s.heap.objs.size,_,I1.turned (t':=s.toks) (fun c ob hb q=>(hs'.2 c hb).trans q) (fr1 z (by simp)) f1 f3 f4 f5,rfl,⟨_,_,_,xs,ys,ea,eb,ex,ey,nt,rfl,rfl⟩,⟨hz',?_,⟨u,v,?_⟩,?_,?_⟩,fr1⟩
  ·exact (hs'.2 TI k5.a).trans (hk TI _ k5.a k5.e k5.f k5.g hTI)
  ·exact (hs'.2 TO k5.b).trans a2
  ·obtain ⟨o,e,r⟩:=a3;exact ⟨o,(hs'.2 i1 k5.c).trans e,r⟩
  ·obtain ⟨o,e,r⟩:=a4;exact ⟨o,(hs'.2 i2 k5.d).trans e,r⟩
 done:=by
  walk_at "i"
  subst hP hw hK
  obtain ⟨hz,hTI,⟨pa,pb,hTO⟩,h1,h2⟩:=st
  obtain ⟨xs,ys,ea,eb,le⟩:=hg
  obtain ⟨_,us,n,rv,el,gl⟩:=I.Ou ea
  obtain ⟨_,vs,m,rw',er,gr⟩:=I.Ou eb
  have D:=k5.apart ea eb fun c hc=>(hf c hc).1
  have hend:us.toArray[i]? = none\/vs.toArray[i]? = none:=by
   rcases le with z | z
   ·exact .inl (acN (by rw [dY,<- el];exact z))
   ·exact .inr (acN (by rw [dY,<- er];exact z))
  refine wpAny_pyNext_zip_end (I.ok.hd hc) D hz hTI hTO h1 h2 ⟨_,gl,rfl,n,rfl⟩ ⟨_,gr,rfl,m,rfl⟩ hend fun h' hk=>⟨rfl,?_⟩
  exact I.ag3 (t':=s.toks) (ch:=[z,TO,i1,i2]) (fun c o hc e=>hk c o (fun q=>hc (by simp [q])) (fun q=>hc (by simp [q])) (fun q=>hc (by simp [q])) (fun q=>hc (by simp [q])) e)
   (fun c hc=>hf c (ahY hc))
 self:=fun A i s Q E st h=>aby st.1 h
noncomputable def iZip (ta:TA):TI:=fun σ H R=>ta σ H fun vs H1=>∃ a b xs ys,vs=[.ref a,.ref b]/\H1 a=some (.lst xs)/\H1 b=some (.lst ys)/\R (Itz a b) H1
theorem aj5 {a b:Expr} {x1} {pos:Pos} (hg:Gl X "zip") (hm:X.mg "zip" = none) (ha:PA X [a,b] ta) (hs:dM [a,b] X.env=[(false,eval a X.env),(false,eval b X.env)]:=by rfl)
  (hs2:dM [b] X.env=[(false,eval b X.env)]:=by rfl):PI X (.Tuple elts x1 tpos) (.Call (.Name "zip" p) [a,b] [] pos) (iZip ta):=by
 intro pins s σ H R I h
 refine Call_ (nA I hg hm boot_zip (Gq (thn (ha pos pins s σ H _ I h) fun us s1 ⟨vs,H1,I1,r1,q1⟩=>?_) (by rw [hs,hs2]) (by rw [hs2];rfl)))
 obtain ⟨l1,l2,xs,ys,e,e1,e2,q⟩:=q1
 subst e
 cases r1 with
 | cons r rr =>
  cases rr with
  | cons r' rr =>
   cases rr
   cases r
   cases r'
   obtain ⟨_,us,n,rv,_,gl⟩:=I1.Ou e1
   obtain ⟨_,vs,m,rw',_,gr⟩:=I1.Ou e2
   refine call_zip_2 (xs:=us.toArray) (ys:=vs.toArray) ⟨_,gl,rfl,n,rfl⟩ ⟨_,gr,rfl,m,rfl⟩ fun h' z1 z2 z3 z4 z5 z6 hk=>?_
   refine aby z1 ⟨_,[s1.heap.objs.size+4,s1.heap.objs.size+2,s1.heap.objs.size+3,s1.heap.objs.size,s1.heap.objs.size+1],_,Itz l1 l2,H1,rfl,I1.kept (t':=s1.toks) hk,
    aft l1 l2 (s1.heap.objs.size+4) (s1.heap.objs.size+2) (s1.heap.objs.size+3) s1.heap.objs.size (s1.heap.objs.size+1) (z5_of _),⟨z1,z2,⟨_,_,z3⟩,z4,z5⟩,fun c hc=>?_,q⟩
   have hle:s1.heap.objs.size<=c:=by
    simp only [cU,jd,or_false] at hc
    rcases hc with rfl | rfl | rfl | rfl | rfl <;> lia
   exact I1.aah hle (I1.hok.fresh hle)
noncomputable def mO (σ:St) (zs:List (Option V)) (caps:List Nat):St:=zs++caps.map fun j=>(σ[j]?).join
noncomputable def Ib (J:It) (g:TG) (k:Nat) (caps:List Nat) (tt:TT) (te:TE) (σ:St) (D:Addr) (Q:VK) (H1:Hp):Prop:=∃ W:Nat->Nat->List V->Hp->Prop,(∃ m,W 0 m [] (upd H1 D (.lst [])))/\∀ i m ys H,W i m ys H ->
 H D=some (.lst ys)/\((J.stop i H/\Q (.ref D) H)\/(J.go i H/\ys.length<sizeLine/\∀ x H',J.yld i H x H'->∀ zs:List (Option V),zs.length=k->g x (mO σ zs caps) H' fun σ2 H2=>(∃ zs':List (Option V),zs'.length=k/\σ2=mO σ zs' caps)/\tt σ2 H2 fun b H3=>if b=true then
  te σ2 H3 fun y H4=>H4 D=some (.lst ys)/\∃ m',m'<m/\W (i+1) m' (ys++[y]) (upd H4 D (.lst (ys++[y])))
  else H3 D=some (.lst ys)/\∃ m',m'<m/\W (i+1) m' ys H3))
noncomputable def aj6 (wi:TI) (g:TG) (k:Nat) (caps:List Nat) (tt:TT) (te:TE):TE:=fun σ H Q=>wi σ H fun J H1=>∀ D,H1 D=none->Ib J g k caps tt te σ D Q H1
theorem Inv.compT {cl:List (Str × Addr)} {h4:Heap} {tk:Nat} (I:Inv X pins σ H s) (hkind:scope.kind = .function) (hsub:Hw X.env.cells cl)
  (hhas:∀ y,((gA scope X.env).names.lookup y=some .cell\/(gA scope X.env).names.lookup y=some .free)->∃ c,cl.lookup y=some c) (hf:∀ b∈fp,vQ X pins H b) (hfo:∀ b∈fp,∃ o,s.heap.get? b=some o)
  (hlen:N.length=k+caps.length) (hcap:∀ (i:Nat) (j:Nat),caps[i]? = some j->zu X N scope cl (i+k) j) (hD:s.heap.objs.size<=D) (hC:s.heap.objs.size<=C) (hDC:C≠D)
  (hk:∀ b o,s.heap.get? b=some o->h4.get? b=some o) (hlist:∃ n,h4.get? D=some { cls:=.type "list",data:=.seq #[] n }) (hns:∃ m,h4.Ns C m) :
  Inv (dH X N scope cl s H fp C) (X.pn++pins) (mO σ (Ge k none) caps) (upd H D (.lst [])) { s with heap:=h4,toks:=tk }:=by
 have hnD:H D=none:=I.hok.fresh hD
 have hnC:H C=none:=I.hok.fresh hC
 have lt:∀ b o,s.heap.get? b=some o->b≠D/\b≠C:=fun b o e=>⟨cO (gF (bR e) hD),cO (gF (bR e) hC)⟩
 have nst:∀ b,b≠X.env.locals->b∉X.fs->b∉frs X.stack:=fun b h1 h2 z=>by
  rcases cU.mp (I.xW b z) with e | e
  ·exact h1 e
  ·exact h2 e
 refine ⟨⟨I.ok.mod,hkind,I.ok.glob,I.ok.blt,hC,fun x y c h1 h2=>I.ok.inj x y c (hsub.of h1) (hsub.of h2),fun y hy=>hhas y hy,fun y c h=>(nomatch h),I.ok.hd,I.ok.frames,.inl rfl,fun b hb=>?_,I.bs,iC I.ok.bsz I.sz,fun b o e hb=>?_,fun b hb=>?_,I.stack,I.Ep⟩,
  rfl,I.bare,Un.laid hk hD hnD,?_,fun y c e=>?_,?_,fun y c e=>?_,fun p hp=>?_,?_,?_⟩
 ·obtain ⟨o,e⟩:=hfo b hb
  exact ⟨(lt b o e).2,fun x c q=>(hf b hb).2.2.2.2.1 x c (hsub.of q)⟩
 ·rcases (hf b hb).2.2.2.1 with z | z
  ·exact I.ok.aaf b o e z
  ·exact absurd (gF (bR e) I.ok.bsz) (M8.mpr z)
 ·exact nst b (hf b hb).2.1 (hf b hb).2.2.1
 ·obtain ⟨m,hm⟩:=hns
  obtain ⟨m0,_,hl⟩:=I.loc
  refine ⟨m,hm,fun i y v h1 h2 h3=>?_⟩
  have h2a:(Ge k (none:Option V)++caps.map fun j=>(σ[j]?).join)[i]? = some (some v):=h2
  by_cases hik:i<k
  ·rw [FN (by rw [Bd];exact hik),abQ,if_pos hik] at h2a
   cases h2a
  ·rw [yL (by rw [Bd];lia),Bd] at h2a
   obtain ⟨i',rfl⟩:∃ i',i=i'+k:=⟨i-k,by lia⟩
   rw [Nat.add_sub_cancel] at h2a
   have h2':=h2a
   rw [iB] at h2'
   cases ec:caps[i']? with
   | none=>rw [ec] at h2';cases h2'
   | some j =>
    rw [ec] at h2'
    have O4:(σ[j]?).join=some v:=dB h2'
    have e2:σ[j]? = some (some v):=by
     cases q:σ[j]? with
     | none=>rw [q] at O4;cases O4
     | some z=>rw [q] at O4;exact congrArg some O4
    obtain ⟨y',c,n1,n2,k1,k2,lc⟩:=(hcap i' j ec).ok
    have ey:y=y':=by
     have h1':N[i'+k]? = some y:=h1
     rw [n1] at h1';exact (dB h1').symm
    subst ey
    have vis:Vis X.env.scope y:=k1.elim (fun z=>.inr (.inl z)) fun z=>.inr (.inr z)
    obtain ⟨u,ru,lk⟩:=hl j y v n2 e2 vis
    refine ⟨u,ru,.inr ⟨k2,c,lc,?_⟩⟩
    rcases lk with ⟨z,_⟩ | ⟨_,c',lc',ic⟩
    ·rcases k1 with k1 | k1 <;> (rw [z] at k1;cases k1)
    ·rw [hsub.of lc] at lc'
     cases lc'
     obtain ⟨o,ho,hd⟩:=ic
     exact ⟨o,hk c o ho,hd⟩
 ·obtain ⟨v,o,ho,hd⟩:=I.cell y c (hsub.of e)
  exact ⟨v,o,hk c o ho,hd⟩
 ·show (upd H D (.lst [])) C=none
  rw [au hDC];exact hnC
 ·have n:=I.qC y c (hsub.of e)
  obtain ⟨v,o,ho,hd⟩:=I.cell y c (hsub.of e)
  rw [au (lt c o ho).1];exact n
 ·have hp':p∈X.pn++pins:=hp
  obtain ⟨e,n,ne,nf,d⟩:=I.pin p hp'
  exact ⟨hk _ _ e,by rw [au (lt _ _ e).1];exact n,(lt _ _ e).2,nst _ ne nf,d⟩
 ·obtain ⟨n,e⟩:=hlist
  exact I.hok.laid hk hD ⟨cB _,[],n,.nil,e⟩
 ·show (mO σ (Ge k none) caps).length=N.length
  unfold mO
  rw [dh,Bd,bA,hlen]
section
variable {P:aN} {B:bC}
noncomputable def afu (P:aN) (w:World) (B:bC) (R:j6->Shared->Prop) (elt tg:Expr) (ifs:List Expr) (it acc:Value) (en:Env) (J:Nat->Shared->Prop) (n:Nat):Option Value->Shared->Prop
 | none,t1=>R (.ok .next) t1
 | some v,t1 =>
  let X:=notedBy (model P w) B en fun e t=>R (.error e) t
  wpAny (model P w) B (Fp tg it v) (fun _ t2=>wpAny (model P w) B (pP tg en v) (fun _ t3 =>
   wpAny (model P w) B (forIn ifs true fun c r=>if r=true then do let yes <- Fz c en (eval c en);pure (ForInStep.yield yes) else pure (ForInStep.yield r)) (fun yes t4 =>
    if yes=true then wpAny (model P w) B (eval elt en) (fun x t5=>wpAny (model P w) B (call (.builtin "list.append") [acc,x]) (fun _ t6=>∃ m,m<n/\J m t6) X t5) X t4
    else ∃ m,m<n/\J m t4) X t3) X t2) X t1
theorem Yq {elt:Expr} {pos:Pos} {it acc:Value} {en:Env} (J:Nat->Shared->Prop)
  (owe:∀ n t,J n t->wpAny (model P w) B (jZ it) (afu P w B R elt tg ifs it acc en J n) (notedBy (model P w) B en fun e t'=>R (.error e) t') t) (n:Nat) (h:J n s) :
  gj (model P w) B (.compLoop (.ListComp elt [⟨tg,iter,ifs,0⟩] scope pos) 0 it acc en) R s:=by
 have same:∀ {X:Value->Shared->Prop} (a:Value) (b:Shared),X a b->X a b:=fun _ _ h=>h
 refine codeAny_loop rfl J (fun n t hJ=>?_) n h
 show wpAny _ B ((compTurn (.ListComp elt [⟨tg,iter,ifs,0⟩] scope pos) 0 it acc en).onRaise (fun x=>do noteFrame x en;theTreesLotGoes x)) _ _ t
 refine wpAny_noted ?_
 rw [compTurn_list]
 refine aG (SQ (aG (fO (owe n t hJ) (fun r t1 h1=>?_) same)))
 cases r with
 | none=>exact bH h1
 | some v =>
  refine aG (fO h1 (fun _ t2 h2=>aG (fO h2 (fun _ t3 h3=>aG (fO h3 (fun yes t4 h4=>?_) same)) same)) same)
  cases yes with
  | false=>exact bH ⟨rfl,h4⟩
  | true=>exact aG (aG (fO h4 (fun x t5 h5=>aG (fO h5 (fun _ t6 h6=>bH (bH ⟨rfl,h6⟩)) same)) same))
end
theorem Ry {elt:Expr} {pos:Pos} {cl:List (Str × Addr)} {H2:Hp} {s2:Shared} {it:Addr} {tn:Nat->Heap->Prop} {J:It}
  {RR:Value->Addr->j6->Shared->Prop} {E:Value->Shared->Prop} (hc:X.calm=true)
  (hcell:∀ y∈scope.names,y.2 ≠ .cell) (hkind:scope.kind = .function) (hsub:Hw X.env.cells cl)
  (hhas:∀ y,((gA scope X.env).names.lookup y=some .cell\/(gA scope X.env).names.lookup y=some .free)->∃ c,cl.lookup y=some c)
  (hg:∀ s H fp C,PG (dH X N scope cl s H fp C) tg g) (hlen:N.length=k+caps.length) (hcap:∀ (i:Nat) (j:Nat),caps[i]? = some j->zu X N scope cl (i+k) j)
  (ht:∀ s H fp C,PTs (dH X N scope cl s H fp C) ifs tt) (he:∀ s H fp C,PE (dH X N scope cl s H fp C) elt te)
  (I2:Inv X pins σ H2 s2) (T:Turn X.prog X.w X.K tg J fp it tn) (st2:tn 0 s2.heap) (f2:∀ b∈fp,vQ X pins H2 b) (w2:∀ D,H2 D=none->Ib J g k caps tt te σ D Q H2)
  (hRR:∀ D C σ' H' s5,s2.heap.objs.size<=C->Inv (dH X N scope cl s2 H2 fp C) (X.pn++pins) σ' H' s5->Q (.ref D) H'->RR (.ref D) C (.ok .next) s5) :
  wpAny (model X.prog X.w) X.A (Mp []) (fun acc s₃=>wpAny (model X.prog X.w) X.A (abA scope X.env.globals cl [] X.env.qual none .none (some X.env)) (fun cenv s₄ =>
   gj (model X.prog X.w) X.A (.compStart (.ListComp elt [⟨tg,iter,ifs,0⟩] scope pos) 0 (.ref it) acc { cenv with scope:=gA scope X.env }) (RR acc cenv.locals) s₄) E s₃) E s2:=by
 refine yK (abl hcell (by intro y hy;simp at hy) (fun h₁ hns₁ hsb₁=>?_) hkind)
 dsimp only at hns₁ hsb₁ ⊢
 generalize hH2:s2.heap.push { cls:=.type "list",dict:=none,data:=.seq ([]:List Value).toArray }=G2 at hns₁ hsb₁ ⊢
 have hC:G2.objs.size=s2.heap.objs.size+1:=by rw [<- hH2,qU]
 have hCle:s2.heap.objs.size<=G2.objs.size:=by rw [hC];exact m9 _
 have hDC:G2.objs.size≠s2.heap.objs.size:=by rw [hC];exact qW (xK _)
 have old:∀ b o,s2.heap.get? b=some o->h₁.get? b=some o:=fun b o e =>
  hsb₁.extBut b o (by rw [hC];exact cO (um (bR e))) (dR _ (hH2 ▸ dR _ e))
 have hacc:∃ n,h₁.get? s2.heap.objs.size=some { cls:=.type "list",data:=.seq #[] n }:=⟨_,hsb₁.extBut _ _ (aK hDC) (dR _ (hH2 ▸ eE _ rfl))⟩
 have hnD:H2 s2.heap.objs.size=none:=I2.hok.fresh (bV _)
 obtain ⟨W,⟨m0,w0⟩,turn⟩:=w2 s2.heap.objs.size hnD
 have fo:∀ b∈fp,∃ o,s2.heap.get? b=some o:=fun b hb=>by
  obtain ⟨o,e,_⟩:=T.obj _ _ st2 b hb
  exact ⟨o,e⟩
 have I3:Inv (dH X N scope cl s2 H2 fp G2.objs.size) (X.pn++pins) (mO σ (Ge k none) caps) (upd H2 s2.heap.objs.size (.lst [])) { s2 with heap:=h₁,toks:=s2.toks+([]:List (Str × Value)).length } :=
  I2.compT hkind hsub hhas f2 fo hlen hcap (bV _) hCle hDC old hacc ⟨_,hns₁⟩
 have st3:tn 0 h₁:=T.keep _ _ _ st2 fun b _ o e=>old b o e
 have nf:∀ b∈fp,b≠s2.heap.objs.size:=fun b hb=>by
  obtain ⟨o,e⟩:=fo b hb
  exact cO (bR e)
 have stat:∀ {H':Hp},(∀ b∈fp,H' b=none)->∀ b∈fp,vQ (dH X N scope cl s2 H2 fp G2.objs.size) (X.pn++pins) H' b:=fun {H'} hn b hb=>by
  obtain ⟨f0,f1,f2',f3,f4,f5⟩:=f2 b hb
  obtain ⟨o,e⟩:=fo b hb
  refine ⟨hn b hb,cO (gF (bR e) hCle),fun z=>?_,.inl hb,fun y c q=>f4 y c (hsub.of q),fun p hp=>f5 p hp⟩
  rcases cU.mp (I2.xW b z) with q | q
  ·exact f1 q
  ·exact f2' q
 have loop:gj (model X.prog X.w) X.A (.compLoop (.ListComp elt [⟨tg,iter,ifs,0⟩] scope pos) 0 (.ref it) (.ref s2.heap.objs.size) (Mi scope cl G2.objs.size X.env))
   (RR (.ref s2.heap.objs.size) G2.objs.size) { s2 with heap:=h₁,toks:=s2.toks+([]:List (Str × Value)).length }:=by
  refine Yq (fun n s'=>∃ i ys σ' H',Inv (dH X N scope cl s2 H2 fp G2.objs.size) (X.pn++pins) σ' H' s'/\(∃ zs:List (Option V),zs.length=k/\σ'=mO σ zs caps)/\tn i s'.heap/\(∀ b∈fp,H' b=none)/\W i n ys H') ?_ m0
   ⟨0,[],_,_,I3,⟨_,Bd,rfl⟩,st3,fun b hb=>by rw [au (nf b hb)];exact (f2 b hb).1,w0⟩
  rintro n s' ⟨i,ys,σ',H',I',⟨zs,hzs,rfl⟩,st',fr',w'⟩
  obtain ⟨hl,ends⟩:=turn i n ys H' w'
  rcases ends with ⟨stop,q⟩ | ⟨go,hsz,step⟩
  ·refine fO (T.done (dH X N scope cl s2 H2 fp G2.objs.size) rfl rfl rfl hc i _ s' _ H' (fun _ _=>False) I' (stat fr') st' stop) (fun r s5 ⟨hr,I5⟩=>?_) fun _ _ f=>f.elim
   subst hr
   exact hRR _ _ _ _ _ hCle I5 q
  ·refine fO (T.item (dH X N scope cl s2 H2 fp G2.objs.size) rfl rfl rfl hc i _ s' _ H' (fun _ _=>False) I' (stat fr') st' go) (fun r s5 ⟨u,hr,h5⟩=>?_) fun _ _ f=>f.elim
   subst hr
   refine fO h5 (fun _ s6 ⟨y,H6,I6,r6,y6,st6,fr6⟩=>?_) fun _ _ f=>f.elim
   have I6':=I6.pinned (stat fr6) (T.obj _ _ st6)
   have again:∀ {σ7:St} {H7:Hp} {s7:Shared},Inv (dH X N scope cl s2 H2 fp G2.objs.size) ((X.pn++pins)++Ce fp s6.heap) σ7 H7 s7->tn (i+1) s7.heap/\∀ b∈fp,H7 b=none:=fun {σ7 H7 s7} I7=>by
    refine ⟨T.keep _ _ _ st6 fun b hb o e=>(I7.pin (b,o) (lD _ (lD _ (j9 hb e)))).1,fun b hb=>?_⟩
    obtain ⟨o,e,d⟩:=T.obj _ _ st6 b hb
    exact (I7.pin (b,o) (lD _ (lD _ (j9 hb e)))).2.1
   refine fO (hg s2 H2 fp G2.objs.size _ s6 _ H6 y u _ I6' r6 (step y H6 y6 zs hzs)) (fun _ s7 ⟨σ7,H7,I7,⟨zs7,hz7,e7⟩,q7⟩=>?_) fun _ _ f=>f.elim
   subst e7
   refine fO (ht s2 H2 fp G2.objs.size _ s7 _ _ _ I7 q7) (fun ok s8 ⟨H8,I8,q8⟩=>?_) fun _ _ f=>f.elim
   cases ok with
   | false =>
    obtain ⟨_,m',hm,w8⟩:=q8
    have a8:=again I8
    exact ⟨m',hm,i+1,ys,_,H8,I8.nG,⟨zs7,hz7,rfl⟩,a8.1,a8.2,w8⟩
   | true =>
    refine fO (he s2 H2 fp G2.objs.size _ s8 _ _ _ I8 q8) (fun x9 s9 ⟨y9,H9,I9,r9,l9,m',hm,w9⟩=>?_) fun _ _ f=>f.elim
    refine fO (jE (X:=dH X N scope cl s2 H2 fp G2.objs.size) _ s9 _ H9 (.ref s2.heap.objs.size) [y9] _ [x9] (fun _ H10=>H10=upd H9 s2.heap.objs.size (.lst (ys++[y9]))) I9 rfl (.cons r9 .nil) ⟨_,ys,y9,rfl,rfl,l9,hsz,rfl⟩) (fun _ s10 ⟨_,H10,I10,_,e10⟩=>?_) fun _ _ f=>f.elim
    subst e10
    have a10:=again I10
    exact ⟨m',hm,i+1,ys++[y9],_,_,I10.nG,⟨zs7,hz7,rfl⟩,a10.1,a10.2,w9⟩
 exact abj loop (T.self _ 0 _ _ _ st3 loop)
theorem afv {elt:Expr} {pos:Pos} {cl:List (Str × Addr)} {wi:TI} (hc:X.calm=true) (hclos:Tg scope X.env=pure cl)
  (hcell:∀ y∈scope.names,y.2 ≠ .cell) (hkind:scope.kind = .function) (hnames:∀ y∈scope.names,y.2 = .local->scope.names.lookup y.1=some .local) (hsub:Hw X.env.cells cl)
  (hhas:∀ y,((gA scope X.env).names.lookup y=some .cell\/(gA scope X.env).names.lookup y=some .free)->∃ c,cl.lookup y=some c)
  (hg:∀ s H fp C,PG (dH X N scope cl s H fp C) tg g) (hlen:N.length=k+caps.length) (hcap:∀ (i:Nat) (j:Nat),caps[i]? = some j->zu X N scope cl (i+k) j)
  (hi:PI X tg iter wi) (ht:∀ s H fp C,PTs (dH X N scope cl s H fp C) ifs tt) (he:∀ s H fp C,PE (dH X N scope cl s H fp C) elt te)
  (hs:∀ x,Fl iter X.env x=pure x:=by intro _;rfl):PE X (.ListComp elt [⟨tg,iter,ifs,0⟩] scope pos) (aj6 wi g k caps tt te):=by
 walk_at "k"
 rw [abI]
 refine Ss (use:=none) rfl hs hclos hkind hnames (thn (hi pins s σ H _ I h) fun v s1 h1=>thn h1 fun itv s2 h2=>?_)
 obtain ⟨it,fp,tn,J,H2,e,I2,T,st2,f2,w2⟩:=h2
 subst e
 exact Ry hc hcell hkind hsub hhas hg hlen hcap ht he I2 T st2 f2 w2 fun D C σ' H' s5 hC I5 q=>by
  obtain ⟨m,hm,_⟩:=I5.loc
  exact ⟨m,hm,fun h' hs'=>⟨.ref D,H',I2.XQ f2 hC I5 hs',rfl,q⟩⟩
theorem aaS {a b:Addr} {ys:List V} (Pv:Nat->List V->Hp->Prop) (h0:Pv 0 [] (upd H D (.lst [])))
  (hl:∀ i zs H,Pv i zs H->H a=some (.lst xs)/\H b=some (.lst ys)/\H D=some (.lst zs)/\zs.length<sizeLine)
  (hs:∀ i zs H x y t (ws:List (Option V)),xs[i]? = some x->ys[i]? = some y->Pv i zs H->H t=none->ws.length=k->g (.ref t) (mO σ ws caps) (upd H t (.tup [x,y])) fun σ2 H2=>(∃ ws':List (Option V),ws'.length=k/\σ2=mO σ ws' caps)/\te σ2 H2 fun u H4=>H4 D=some (.lst zs)/\Pv (i+1) (zs++[u]) (upd H4 D (.lst (zs++[u]))))
  (hd:∀ zs H,Pv (min xs.length ys.length) zs H->Q (.ref D) H)
  (monoG:∀ x σ H (R R':St->Hp->Prop),(∀ σ H,R σ H->R' σ H)->g x σ H R->g x σ H R')
  (mono:∀ σ H (Q Q':VK),(∀ y H,Q y H->Q' y H)->te σ H Q->te σ H Q') :
  Ib (Itz a b) g k caps rH te σ D Q H:=by
 refine ⟨fun i m zs H=>m=min xs.length ys.length-i/\i<=min xs.length ys.length/\Pv i zs H,⟨min xs.length ys.length,by simp,cB _,h0⟩,?_⟩
 rintro i m zs H ⟨rfl,hi,p⟩
 obtain ⟨qa,qb,qd,hz⟩:=hl i zs H p
 refine ⟨qd,?_⟩
 by_cases hlt:i<min xs.length ys.length
 ·refine .inr ⟨⟨xs,ys,qa,qb,by lia,by lia⟩,hz,fun x H' y ws hw=>?_⟩
  obtain ⟨t,u,v,xs',ys',ea,eb,ex,ey,ht,rfl,rfl⟩:=y
  rw [qa] at ea;cases ea
  rw [qb] at eb;cases eb
  refine monoG _ _ _ _ _ (fun σ2 H2 h2=>⟨h2.1,?_⟩) (hs i zs H u v t ws ex ey p ht hw)
  unfold rH
  dsimp only
  rw [if_pos rfl]
  exact mono _ _ _ _ (fun y H3 ⟨a,b⟩=>⟨a,min xs.length ys.length-(i+1),by lia,rfl,hlt,b⟩) h2.2
 ·have e:i=min xs.length ys.length:=by lia
  subst e
  exact .inl ⟨⟨xs,ys,qa,qb,by lia⟩,hd zs H p⟩
structure Fly (g:Heap) (H:Hp) (h:Heap) (e C T:Addr) (fl:Value):Prop where
 ue:H e=none
 uT:H T=none
 ge:g.get? e=none
 gT:g.get? T=none
 tr:∃ oe vs oT ts a0,h.get? e=some oe/\(oe.cls = .ref C/\vs[0]? = some a0)/\oe.data = .fields vs/\vs[1]? = some (.ref T)/\T≠e/\h.get? T=some oT/\oT.data = .fields ts/\ts[3]? = some fl
noncomputable abbrev Bare (h:Heap) (l:List Env) (hid:List Addr):Heap:=acz h (frs l++hid)
section
variable {P:aN} {g h h':Heap} {H0:Hp} {l:List Env} {fs hid:List Addr} {e T:Addr} {a0 fl:Value}
theorem Rz (ff:h.FunFrames base l):h.FunFrames (Bare h l hid) l :=
 PySem.W.funFrames_hide ff fun env he _ hf=>CV _ (T5.mpr ⟨env,he,hf⟩)
theorem aj7 (u:Un fs [] H0 H g h) (hok:HOk P w H h) (ff:h.FunFrames base l) (free:∀ b∈frs l,H b=none) (sub:∀ b∈frs l,b∈fs\/g.get? b=none)
  (hh:∀ b∈hid,H b=none/\g.get? b=none) (ue:H e=none) (ge:g.get? e=none) (st:(Bare h l hid).StaysIn h') (up:h.UpToSlots h') (tr:h'.TracedAtW (Bare h l hid) e (.ref C) a0 fl) :
  Un fs [] H0 H g h'/\HOk P w H h'/\∃ T,Fly g H h' e C T fl:=by
 have keep:∀ b o,h.get? b=some o->b∉frs l->b∉hid->h'.get? b=some o:=fun b o q n1 n2=>st b o (Uk _ q fun m=>(dg.mp m).elim n1 n2)
 have slot:∀ b,b∈frs l->∀ o,h.get? b=some o->∃ sl,h'.get? b=some { o with slots:=sl }:=fun b hb o q=>by
  obtain ⟨_,o',q',nf⟩:=ff.mem hb
  rw [q] at q';cases q'
  exact up b o q nf
 have nog:∀ {b:Addr} {o:Obj},g.get? b=some o->b∉hid:=fun q z=>by rw [(hh _ z).2] at q;cases q
 have tracked:∀ b v o,H b=some v->h.get? b=some o->h'.get? b=some o:=fun b v o q r =>
  keep b o r (fun z=>by rw [free b z] at q;cases q) fun z=>by rw [(hh b z).1] at q;cases q
 refine ⟨⟨fun b o q n hb hx=>?_,fun b o q n hb hx=>?_,u.free,fun b o q hx=>?_,u.tups,u.yV,u.DX⟩,fun b v q=>?_,?_⟩
 ·refine keep b o (u.keep b o q n hb hx) (fun z=>?_) (nog q)
  rcases sub b z with z | z
  ·exact hb z
  ·rw [z] at q;cases q
 ·obtain ⟨sl,r⟩:=u.slot b o q n hb hx
  by_cases z:b∈frs l
  ·obtain ⟨sl',r'⟩:=slot b z _ r
   exact ⟨sl',r'⟩
  ·exact ⟨sl,keep b _ r z (nog q)⟩
 ·obtain ⟨o',r⟩:=u.there b o q hx
  by_cases z:b∈frs l
  ·obtain ⟨sl',r'⟩:=slot b z _ r
   exact ⟨_,r'⟩
  ·exact ⟨o',keep b _ r z (nog q)⟩
 ·refine (hok b v q).stay (fun c o hc r=>?_) (fun _ r=>r) fun _ _ r=>r
  rcases hc with rfl | hc
  ·exact tracked c v o q r
  ·exact tracked c _ o hc r
 ·obtain ⟨oe,vs,T,oT,ts,q1,q2,q3,q4,q5,q6,q7,q8,q9⟩:=tr
  have ahZ:∀ o,h.get? T=some o->T∈hid:=fun o r=>by
   by_cases z:T∈frs l
   ·obtain ⟨_,o',q',nf⟩:=ff.mem z
    rw [r] at q';cases q'
    obtain ⟨sl,r'⟩:=slot T z o r
    rw [q7] at r';cases r'
    exact absurd q8 (nf ts)
   ·by_cases z':T∈hid
    ·exact z'
    ·have k:=Uk (frs l++hid) r fun m=>(dg.mp m).elim z z'
     rw [q5] at k;cases k
  refine ⟨T,ue,?_,ge,?_,oe,vs,oT,ts,a0,q1,q2,q3,q4,q6,q7,q8,q9⟩
  ·cases r:H T with
   | none=>rfl
   | some v =>
    obtain ⟨o,r'⟩:=(hok T v r).ex
    rw [(hh T (ahZ o r')).1] at r;cases r
  ·cases r:g.get? T with
   | none=>rfl
   | some o =>
    obtain ⟨o',r'⟩:=u.there T o r (by simp)
    rw [(hh T (ahZ o' r')).2] at r;cases r
end
noncomputable def CXE (P:aN) (w:World):CXT:=fun outer H s E ev s'=>∃ e C T H',ev = .ref e/\s'.os=s.os/\qY s'.gens/\Un (frs outer) [] H H' s.heap s'.heap/\HOk P w H' s'.heap/\Fly s.heap H' s'.heap e C T .none/\E (.ref C) none H'
theorem uL {P:aN} :Passes (CXE P w) X E0:=fun _ _ _ _ _ _ _ ⟨_,_,_,_,_,_,_,_,_,_,z⟩=>z.elim
section
variable {P:aN} {K:bh}
theorem Fun.okE (F:Fun K x qual st f fd) (S:aO N ps (aH st)) (len:∀ vs H Q E,sp vs H Q E->vs.length=ps.length)
  (hbody:∀ (cdv:Value) (A:bC) (outer:List Env) (s:Shared) (H:Hp) (vs:List V) (Q:VK) (E:XK),jK k (A.deeper (j8 qual (aH st) s.heap.objs.size f cdv))->sp vs H Q E ->
   ∃ t,PSs (zc (CXE P w) P w K mg base N qual (aH st) f cdv A outer s H E) (iR st) t/\t { nx:=fun _ H'=>Q .non H',rt:=Q } (start N vs) H):cY P w K mg base (CXE P w) (k+1) f fd ps sp:=by
 obtain ⟨oc,od,kV,doc,pm,an,cdv,ct,osl,rfl,lk,hcd⟩:=F.ex
 exact ahL lk hcd S len fun A outer s H vs Q E hr hsp=>hbody cdv A outer s H vs Q E hr hsp
end
theorem PS.nox {t:TS} (h:PS X.nox st t):PS X st t:=fun pins s σ H D I hw =>
 fO (h pins s σ H D (I.wish _) hw) (fun _ _ q=>q.nF) fun _ _ z=>iZ z
theorem aj8 {K:bh} {h:Heap} (kin:K.In h) (hm:mg x=some (.ref C)) (q:Gi K C bmB newId=true):OwnCls x C bmB newId mg h:=by
 refine ⟨hm,?_⟩
 simp only [Gi] at q
 split at q
 case h_2=>cases q
 case h_1 ho =>
  rename_i dd cl sl
  split at q
  case h_2=>cases q
  case h_1 hm' hs =>
   rename_i C' bm k0 k1 k2 k3 n k5
   simp only [Gw,beq_iff_eq,xT] at q
   obtain ⟨⟨⟨⟨⟨e1,e2⟩,e3⟩,e4⟩,e5⟩,e6⟩:=q
   subst e1;subst e2
   cases cl with
   | mk nm bs mro ns qn hd sn sub ab col del =>
    simp only at hm' e3 e5 e6
    subst hm';subst e3
    have es:sl = #[k0,k1,k2,k3,some (.builtin n),k5]:=by cases sl with | mk ls=>simp only at hs;rw [hs]
    subst es
    exact ⟨bm,ns,nm,qn,bs,hd,sn,sub,ab,col,dd,k0,k1,k2,k3,k5,h.nsMap ns,kin _ _ ho,.of_isNs (PySem.W.isNs_of_in kin e5),PySem.W.nsMap_none_of_in kin e5 e6,PySem.W.tail_of_in kin e4⟩
noncomputable def aj9 (ta:TA) (E:XK) (C:Addr):TS:=fun _ σ H=>ta σ H fun vs H1=>vs.length<=sizeLine/\E (.ref C) none H1
section
variable {P:aN} {K:bh}
theorem qH {e₀:Expr} {rest:List Expr} {np cpos pos:Pos} {B initId:String} (FB:ExcBaseFacts B newId initId bmB) (q:Gi K C bmB newId=true)
  (hg:Gl (zc (CXE P w) P w K mg base N qual scope f cd A outer s H E) x) (hm:mg x=some (.ref C)) (ha:PA (zc (CXE P w) P w K mg base N qual scope f cd A outer s H E) (e₀::rest) ta)
  (he:dM (e₀::rest) (zc (CXE P w) P w K mg base N qual scope f cd A outer s H E).env=(false,eval e₀ (zc (CXE P w) P w K mg base N qual scope f cd A outer s H E).env)::dM rest (zc (CXE P w) P w K mg base N qual scope f cd A outer s H E).env:=by rfl)
  (hpl:(iI cpos (dM rest (zc (CXE P w) P w K mg base N qual scope f cd A outer s H E).env)).any (·.1)=false:=by rfl) (hd:(x == ("__debug__" : Str))=false:=by decide) :
  PS (zc (CXE P w) P w K mg base N qual scope f cd A outer s H E) (.Raise (some (.Call (.Name x np) (e₀::rest) [] cpos)) none pos) (aj9 ta E C):=by
 intro pins s1 σ H1 D I h
 obtain ⟨bm,N',nm,qn,bs,hdct,sn,sub,ab,col,dd,k0,k1,k2,k3,k5,mN,hC,hN,hni,TL⟩:=(aj8 I.mod.kin hm q).obj
 refine wpAny_Raise_call_subT (C:=C) (nm:=nm) (q:=qn) (N:=N') (bs:=bs) (bm:=bm) (hdct:=hdct) (sn:=sn) (sub:=sub) (ab:=ab) (col:=col) (dd:=dd) (k0:=k0) (k1:=k1) (k2:=k2) (k3:=k3) (k5:=k5)
  FB (mN:=mN) (TL.hasType FB.hasBase) (I.ok.hd rfl) ?_ hni (yX I hg hm ⟨rfl,?_⟩ hd)
 ·rw [he]
  show (false || (iI cpos (dM rest _)).any (·.1))=false
  rw [hpl];rfl
 have h2:=ha cpos pins s1 σ H1 _ I h
 rw [he] at h2 ⊢
 refine Vq (fO h2 (fun us s2 ⟨vs,H2,I2,r,z,hE⟩=>?_) fun _ _ y=>y)
 refine ⟨rfl,by rw [<- r.length];exact z,I2.bk _ _ hC,hN.keeps I2.bk,TL.keeps I2.bk,fun h' e hx=>?_⟩
 have ue:H2 e=none:=by
  cases k:H2 e with
  | none=>rfl
  | some v =>
   obtain ⟨o,k'⟩:=(I2.hok e v k).ex
   rw [hx.new] at k';cases k'
 have ge:s.heap.get? e=none:=by
  cases k:s.heap.get? e with
  | none=>rfl
  | some o =>
   obtain ⟨o',k'⟩:=I2.base.there e o k (by intro z;exact absurd (show e∈([]:List Addr) from z) (by simp))
   rw [hx.new] at k';cases k'
 refine wpAny_leaves_madeW (base:=Bare s2.heap (j8 qual scope s.heap.objs.size f cd::outer) []) I2.ok.frames rfl (fun b o k=>acs _ k) (Rz I2.stack) hx fun h'' t x1 x2 x3 x4=>?_
 have sub:∀ b∈frs (j8 qual scope s.heap.objs.size f cd::outer),b∈frs outer\/s.heap.get? b=none:=fun b hb=>by
  rcases cU.mp (I2.xW b hb) with z | z
  ·refine .inr ?_
   rw [z];exact aco I.ok.above
  ·exact .inl z
 obtain ⟨r1,r2,T',r3⟩:=aj7 (g:=s.heap) (H0:=H) (fs:=frs outer) (hid:=[]) (l:=j8 qual scope s.heap.objs.size f cd::outer) I2.base I2.hok I2.stack I2.Ep sub (by simp) ue ge x1.1 ((ajr hx.keeps).trans x4) x1.2.2.2.at
 exact ⟨e,C,T',H2,rfl,I2.os,I2.bare,r1,r2,r3,hE⟩
end
noncomputable def XP (X:Cx) (pins:List (Addr × Obj)) (σ:St) (E:XK) (ev:Value) (s':Shared):Prop:=∃ s0 H0,Inv X pins σ H0 s0/\CXE X.prog X.w X.stack H0 s0 E ev s'
section
variable {dvs:List V} {ds:List Value} {m:Str} {pos apos:Pos} {e o:Expr} {es:List Expr} {ta:TE} {t:TA}
end
structure Catch (K:bh) (C B:Addr):Prop where
 sub:Bk K C (.ref B)=some true
 exc:Bk K B (.type "BaseException")=some true
 ty:Us K (.ref B)=some (.type "type")
section
variable {i:Nat} {n:Str} {np hpos pos:Pos} {B:Addr} {b₀:Stmt} {suite:List Stmt} {th:TS}
end
end L2
namespace L2
open PySem PySem.Spec PyProof.Rows PySem.Builtin PySem.Builtin.ObjectAttr PySem.Builtin.Getset_descriptor
structure XCls (K:bh) (C:Addr):Prop where
 ga:jB K (.ref C) "__getattribute__" = some (some (.builtin "BaseException.__getattribute__"))
 gt:jB K (.ref C) "__getattr__" = some none
 cl:jB K (.ref C) "__class__" = some (some (.builtin "object.__class__"))
 sp:Uq K (.builtin "object.__class__") "__get__" = some (some (.builtin "getset_descriptor.__get__"))
 tk:acA K (.builtin "object.__class__")=some true
 ex:Bk K C (.type "BaseException")=some true
 ob:Bk K C (.type "object")=some true
 se:Bk K C (.ref C)=some true
 ty:Us K (.ref C)=some (.type "type")
section
variable {K:bh} {e C:Addr} {o:Obj} {prog:aN} {w:World} {A:bC} {E:Value->Shared->Prop} {s:Shared}
end
section
variable {X:Cx}
end
end L2
namespace L2
open PySem PySem.Spec PyProof.Rows
inductive Alike (K:bh) (H:Hp):Nat->V->V->Prop where
 | flat {n:Nat} {x:V} (h:uI x=true):Alike K H n x x
 | lst {n:Nat} {a b:Addr} {xs ys:List V} (ha:SqL K H a xs) (hb:SqL K H b ys) (hl:xs.length=ys.length) (h:∀ (i:Nat) (x y:V),xs[i]? = some x->ys[i]? = some y->Alike K H n x y):Alike K H (n+1) (.ref a) (.ref b)
 | tup {n:Nat} {a b:Addr} {xs ys:List V} (ha:SqT K H a xs) (hb:SqT K H b ys) (hl:xs.length=ys.length) (h:∀ (i:Nat) (x y:V),xs[i]? = some x->ys[i]? = some y->Alike K H n x y):Alike K H (n+1) (.ref a) (.ref b)
theorem RB {x:V} (h:uI x=true):eqV x x=true:=by
 cases x with
 | non=>rfl
 | bl b=>show (b == b)=true;simp
 | int i=>show (i == i)=true;simp
 | str z=>show (z == z)=true;simp
 | byt _=>cases h
 | flt _=>cases h
 | ref _=>cases h
 | ty _=>cases h
section
variable {X:Cx} {pins:List (Addr × Obj)} {σ:St} {H:Hp} {s:Shared}
theorem all_true (n:Nat):((mZ n).all fun _=>true)=true:=by simp
theorem pF {K:bh} {A:bC} {n:Nat} {xs ys:List V} {us vs:List Value} (ru:Vals xs us) (rv:Vals ys vs)
  (h:∀ (i:Nat) (x y:V),xs[i]? = some x->ys[i]? = some y->Alike K H n x y) (ih:∀ (x y:V) (u v:Value),Alike K H n x y->RelV x u->RelV y v->Gy A s u v true) :
  ∀ j (h1:j<us.toArray.size) (h2:j<vs.toArray.size),Gy A s us.toArray[j] vs.toArray[j] true:=fun j h1 h2=>by
 have e1:j<us.length:=by simpa using h1
 have e2:j<vs.length:=by simpa using h2
 have l1:j<xs.length:=by rw [ru.length];exact e1
 have l2:j<ys.length:=by rw [rv.length];exact e2
 have g1:xs[j]? = some xs[j]:=gR l1
 have g2:ys[j]? = some ys[j]:=gR l2
 obtain ⟨u,k1,r1⟩:=ru.get g1
 obtain ⟨v,k2,r2⟩:=rv.get g2
 have m1:us.toArray[j]=u:=by
  rw [gR e1] at k1
  simpa using k1
 have m2:vs.toArray[j]=v:=by
  rw [gR e2] at k2
  simpa using k2
 rw [m1,m2]
 exact ih _ _ _ _ (h j _ _ g1 g2) r1 r2
theorem RD (I:Inv X pins σ H s):∀ (n:Nat) (A:bC) (x y:V) (u v:Value),A.units+n<cLine->Alike X.K H n x y->RelV x u->RelV y v->Gy A s u v true
 | 0,A,x,y,u,v,hu,h,ru,rv=>by
  cases h with
  | flat f=>have:=Xz (A:=A) (s:=s) ru rv f f;rw [RB f] at this;exact this
 | n+1,A,x,y,u,v,hu,h,ru,rv=>by
  have ih:=fun (x y:V) (u v:Value) (k:Alike X.K H n x y) (r1:RelV x u) (r2:RelV y v)=>RD I n A.in1 x y u v (by show A.units+1+n<cLine;lia) k r1 r2
  cases h with
  | flat f=>have:=Xz (A:=A) (s:=s) ru rv f f;rw [RB f] at this;exact this
  | @lst _ a b xs ys ha hb hl k =>
   obtain rfl:u=Value.ref a:=ru
   obtain rfl:v=Value.ref b:=rv
   by_cases e:a=b
   ·subst e;exact Vv _
   ·obtain ⟨us,r1,p1,_⟩:=I.list ha
    obtain ⟨vs,r2,p2,_⟩:=I.list hb
    have:=ajy (A:=A) p1.isList p2.isList (by rw [dY,dY,<- r1.length,<- r2.length,hl]) tb_g% (pF r1 r2 k ih)
    rw [all_true] at this
    exact adN e this
  | @tup _ a b xs ys ha hb hl k =>
   obtain rfl:u=Value.ref a:=ru
   obtain rfl:v=Value.ref b:=rv
   by_cases e:a=b
   ·subst e;exact Vv _
   ·obtain ⟨us,r1,p1,_⟩:=I.tuple ha
    obtain ⟨vs,r2,p2,_⟩:=I.tuple hb
    have hs:us.toArray.size=vs.toArray.size:=by rw [dY,dY,<- r1.length,<- r2.length,hl]
    have:=ajx (A:=A) p1 p2 tb_g% (pF r1 r2 k ih)
    rw [all_true,hs] at this
    exact adN e (by simpa using this)
noncomputable def akb (K:bh) (b:Bool):R2:=fun x y H Q=>∃ n p q,x = .ref p/\y = .ref q/\n<=40/\Alike K H n x y/\Q (.bl b) H
theorem akc (hu:X.A.units+64<cLine):OpR X (jF .NotEq) (akb X.K false):=by
 walk_at "l"
 obtain ⟨n,p,q,rfl,rfl,hn,k,w⟩:=h
 obtain rfl:v=Value.ref p:=rx
 obtain rfl:u=Value.ref q:=ry
 have ih:=fun m (hm:m+1<=40) (x y:V) (u v:Value) (k:Alike X.K H m x y) (r1:RelV x u) (r2:RelV y v)=>RD I m X.A.in1 x y u v (by show X.A.units+1+m<cLine;lia) k r1 r2
 have fin:EP X pins σ Q (.bool false) s:=⟨.bl false,H,I,rfl,w⟩
 cases k with
 | flat f=>cases f
 | @lst m a b xs ys ha hb hl k =>
  obtain ⟨us,r1,p1,_⟩:=I.list ha
  obtain ⟨vs,r2,p2,_⟩:=I.list hb
  have:=ajt (A:=X.A) p1.isList p2.isList (by rw [dY,dY,<- r1.length,<- r2.length,hl]) tb_g% (pF r1 r2 k (ih m tb_g%))
  rw [all_true] at this
  exact this X.prog X.w X.xe _ fin
 | @tup m a b xs ys ha hb hl k =>
  obtain ⟨us,r1,p1,_⟩:=I.tuple ha
  obtain ⟨vs,r2,p2,_⟩:=I.tuple hb
  have hs:us.toArray.size=vs.toArray.size:=by rw [dY,dY,<- r1.length,<- r2.length,hl]
  have:=ajs (A:=X.A) p1 p2 tb_g% (pF r1 r2 k (ih m tb_g%))
  rw [all_true,hs] at this
  exact (show SeqAt.RcNeAt X.A s (.ref p) (.ref q) false by simpa using this) X.prog X.w X.xe _ fin
end
section
variable {X:Cx}
end
section
variable {X:Cx} {l:Expr} {td:TE} {p cpos apos pos:Pos}
noncomputable def akd (td:TE):TE:=fun σ H Q=>td σ H fun x H1=>∃ (a:Addr) (kvs:List (Key × V)),x = .ref a/\Rd H1 a (.dK kvs)/\∀ q,H1 q=none->Q (.ref q) (upd H1 q (.lst (kvs.map (·.2))))
theorem afw (hm0:X.mg "list" = none) (hl:PE X l td) (m:MI X l "values" apos cpos) (hc:X.calm=true) (hg:Gl X "list" := by rfl)
  (he:dM [.Call (.Attribute l "values" apos) [] [] cpos] X.env=[(false,eval (.Call (.Attribute l "values" apos) [] [] cpos) X.env)]:=by rfl) :
  PE X (.Call (.Name "list" p) [.Call (.Attribute l "values" apos) [] [] cpos] [] pos) (akd td):=by
 walk_at "k"
 refine Call_ (nA I hg hm0 boot_list (Gq ?_ he rfl))
 rw [he]
 refine uE (Ld (T := "dict") (id := "dict.values") m.base rfl m.line NP Nz adw (thn (hl pins s σ H _ I h) fun v s1 ⟨x,H1,I1,r1,q1⟩=>?_))
 obtain ⟨a,kvs,rfl,e,q⟩:=q1
 obtain rfl:v=Value.ref a:=r1
 obtain ⟨t1,t2,hS⟩:=Ow I1 (.inl ⟨kvs,e⟩)
 refine ⟨t1,t2,?_⟩
 obtain ⟨z,_,vs,rel,dd⟩:=sZ I1.hok e
 obtain ⟨ep,dm⟩:=dd.dictAt
 have hlen:=rel.length
 refine SM Nz adu rfl (La ⟨rfl,t1,adt _,_,abt (cT X.prog X.w) a hS,⟨vs,dd⟩,?_⟩)
 refine xV ?_
 show wpAny _ _ (call (.type "list") [.ref s1.heap.objs.size]) _ _ _
 have I2:=I1.kept (h':=s1.heap.push { cls:=.type "dict_values",data:=.fields #[.ref a] }) (t':=s1.toks) fun b ob e=>dR _ e
 have KS:=acu (prog:=X.prog) (w:=X.w) (r:=s1.heap.objs.size) (d:=a) (knd:=cT X.prog X.w) (kvs:=vs) (ep:=ep)
 have hok:(s1.heap.push { cls:=.type "dict_values",data:=.fields #[.ref a] }).IsValuesView s1.heap.objs.size a/\(s1.heap.push { cls:=.type "dict_values",data:=.fields #[.ref a] }).DictAt (cT X.prog X.w) a vs ep:=⟨⟨_,eE _ rfl,rfl,rfl⟩,dm.push _⟩
 generalize s1.heap.push { cls:=.type "dict_values",data:=.fields #[.ref a] }=G at I2 hok ⊢
 refine acw KS (I1.ok.hd hc) hok (by rw [<- hlen];exact z) fun h' tk acc' c' hk hD hacc=>?_
 have hv:Vals (kvs.map (·.2)) acc'.toList:=Cp rel (by rw [fU];exact hacc.1) fun j v e=>hacc.2 j v (by rw [<- iD];exact e)
 refine ⟨.ref G.objs.size,_,I2.laid (a:=G.objs.size) (o:=.lst (kvs.map (·.2))) (t':=tk) hk (bV _) ?_,rfl,q _ (I2.hok.fresh (bV _))⟩
 exact ⟨by rw [bA];exact z,acc'.toList,c',hv,by first | (rw [Uz];exact hD) | simpa using hD⟩
end
section
variable {X:Cx}
noncomputable def rSumL (K:bh):List V->Hp->VK->Prop:=fun xs H Q=>∃ (a:Addr) (ns:List Int),xs=[V.ref a]/\SqL K H a (ns.map V.int)/\Q (.int ns.sum) H
theorem vJ (hc:X.calm=true):jD X (.builtin "sum") (rSumL X.K):=by
 intro pins s σ H xs us Q I r h
 obtain ⟨a,ns,rfl,ha,q⟩:=h
 obtain ⟨u,rfl,ru⟩:=vals1 r
 cases ru
 obtain ⟨its,rv,p,hz⟩:=I.list ha
 have hi:=intsAre_of rv
 have hl:=p.isList
 obtain ⟨ys,e⟩:=hi.allInts.items
 have hns:ns=ys.toList.map (·.1):=by rw [<- hi.numsOf,<- SX,<- e]
 rw [e] at hl
 refine sum_intListG (I.ok.hd hc) hl fun h' tk t' hk=>⟨.int ns.sum,H,I.kept hk,⟨t',?_⟩,q⟩
 rw [preSum_eq,oO (by simp),hns]
end
theorem uM {K:bh} {a:Addr} {xs:List V} {caps:List Nat} {tt:TT} {te:TE} {σ:St} {H:Hp} {D:Addr} {Q:VK} (Pv:Nat->List V->Hp->Prop) (h0:Pv 0 [] (upd H D (.lst [])))
  (hl:∀ i ys H,i<=xs.length->Pv i ys H->SqL K H a xs/\H D=some (.lst ys)/\ys.length<sizeLine)
  (hs:∀ i ys H x,xs[i]? = some x->Pv i ys H->tt (jL σ (some x) caps) H fun b H2=>if b=true then te (jL σ (some x) caps) H2 fun y H3=>H3 D=some (.lst ys)/\Pv (i+1) (ys++[y]) (upd H3 D (.lst (ys++[y]))) else H2 D=some (.lst ys)/\Pv (i+1) ys H2) (hd:∀ ys H,Pv xs.length ys H->Q (.ref D) H)
  (monoT:∀ σ H (R R':Bool->Hp->Prop),(∀ b H,R b H->R' b H)->tt σ H R->tt σ H R')
  (mono:∀ σ H (Q Q':VK),(∀ y H,Q y H->Q' y H)->te σ H Q->te σ H Q') :
  vq (Itl K a) caps tt te σ D Q H:=by
 refine ⟨fun i m ys H=>m=xs.length-i/\i<=xs.length/\Pv i ys H,⟨xs.length,by simp,cB _,h0⟩,?_⟩
 rintro i m ys H ⟨rfl,hi,p⟩
 obtain ⟨sq,q,z⟩:=hl i ys H hi p
 refine ⟨q,?_⟩
 by_cases hlt:i<xs.length
 ·refine .inr ⟨⟨xs,xs[i],sq,by simp [hlt]⟩,z,fun x H' y=>?_⟩
  obtain ⟨e,y⟩:=y
  subst e
  refine monoT _ _ _ _ (fun b H2 hb=>?_) (hs i ys _ x (y xs sq) p)
  cases b with
  | true =>
   rw [if_pos rfl] at hb ⊢
   exact mono _ _ _ _ (fun y H3 ⟨a,b⟩=>⟨a,xs.length-(i+1),by lia,rfl,hlt,b⟩) hb
  | false =>
   rw [if_neg (by decide)] at hb ⊢
   exact ⟨hb.1,xs.length-(i+1),by lia,rfl,hlt,hb.2⟩
 ·have e:i=xs.length:=by lia
  subst e
  exact .inl ⟨⟨xs,sq,bV _⟩,hd ys H p⟩
noncomputable def nQ (te:TE):Prop:=∀ σ H (Q Q':VK),(∀ y H,Q y H->Q' y H)->te σ H Q->te σ H Q'
theorem zL {r:R2} {ta tb:TE} (hr:∀ x y H (Q Q':VK),(∀ y H,Q y H->Q' y H)->r x y H Q->r x y H Q') (ma:nQ ta) (mb:nQ tb):nQ (tOp r ta tb):=fun σ H Q Q' hq h =>
 ma σ H _ _ (fun x H1 h1=>mb σ H1 _ _ (fun y H2 h2=>hr x y H2 Q Q' hq h2) h1) h
theorem jm {K:bh} {ta tb:TE} (ma:nQ ta) (mb:nQ tb):nQ (tOp (vR K) ta tb):=zL (fun x y H Q Q' hq h2=>by
 rcases h2 with ⟨a1,a2,a3,a4,a5,a6,a7,a8,q⟩ | ⟨a1,a2,a3,a4,a5,a6,a7,a8,q⟩ | ⟨a1,a2,a3,a4,q⟩
 ·exact .inl ⟨a1,a2,a3,a4,a5,a6,a7,a8,hq _ _ q⟩
 ·exact .inr (.inl ⟨a1,a2,a3,a4,a5,a6,a7,a8,hq _ _ q⟩)
 ·exact .inr (.inr ⟨a1,a2,a3,a4,hq _ _ q⟩)) ma mb
theorem lg {f:Int->Int->V} {ta tb:TE} (ma:nQ ta) (mb:nQ tb):nQ (tOp (rI0 f) ta tb):=zL (fun x y H Q Q' hq h2=>by
 obtain ⟨a1,a2,a3,a4,q⟩:=h2
 exact ⟨a1,a2,a3,a4,hq _ _ q⟩) ma mb
theorem ag4 {C:Int->Int->Prop} {f:Int->Int->V} {ta tb:TE} (ma:nQ ta) (mb:nQ tb):nQ (tOp (rI C f) ta tb):=zL (fun x y H Q Q' hq h2=>by
 obtain ⟨a1,a2,a3,a4,a5,q⟩:=h2
 exact ⟨a1,a2,a3,a4,a5,hq _ _ q⟩) ma mb
theorem bO (i:Nat):nQ (tVar i):=fun σ H Q Q' hq ⟨v,e,q⟩=>⟨v,e,hq _ _ q⟩
theorem jw (v:V):nQ (tC v):=fun σ H Q Q' hq q=>hq _ _ q
noncomputable def Dm (ta:TA):Prop:=∀ σ H (Q Q':List V->Hp->Prop),(∀ xs H,Q xs H->Q' xs H)->ta σ H Q->ta σ H Q'
theorem qI:Dm aen:=fun σ H Q Q' hq q=>hq _ _ q
theorem gq {ta:TE} {tr:TA} (ma:nQ ta) (mr:Dm tr):Dm (Dh ta tr):=fun σ H Q Q' hq h=>ma σ H _ _ (fun x H1 h1=>mr σ H1 _ _ (fun xs H2 h2=>hq _ _ h2) h1) h
theorem afx {ta:TA} (ma:Dm ta):nQ (tTup ta):=fun σ H Q Q' hq h=>ma σ H _ _ (fun xs H1 h1=>⟨h1.1,fun p hp=>hq _ _ (h1.2 p hp)⟩) h
section
variable {X:Cx} {tg:Expr}
end
theorem Hz:∀ {kvs:List (Key × V)} {vs:List (Key × Value)} {i:Nat} {k:Key} {u:Value},KV kvs vs->vs[i]? = some (k,u)->∃ p,kvs[i]? = some p/\RelV p.2 u
 | _,_,_,_,_,.nil,h=>by simp at h
 | p::ps,_,0,k,u,.cons (b:=q) r t,h=>by
  have e:q=(k,u):=by simpa using h
  subst e
  exact ⟨p,rfl,r.2⟩
 | p::ps,_,i+1,k,u,.cons r t,h=>by
  obtain ⟨p',e,rr⟩:=Hz (i:=i) t (by simpa using h)
  exact ⟨p',by simpa using e,rr⟩
section
variable {X:Cx} {l:Expr} {td:TE} {p cpos apos pos:Pos}
end
noncomputable def MonoT (tt:TT):Prop:=∀ σ H (R R':Bool->Hp->Prop),(∀ b H,R b H->R' b H)->tt σ H R->tt σ H R'
theorem jx {te:TE} (m:nQ te):MonoT (aej te):=fun σ H R R' hr h=>m σ H _ _ (fun y H1 h1=>by
 obtain ⟨b,e,r⟩:=h1
 exact ⟨b,e,hr _ _ r⟩) h
theorem Yr {K:bh} (i j:Nat):∀ x σ H (R R':St->Hp->Prop),(∀ σ H,R σ H->R' σ H)->gTup K 2 (GQ (uG i) (GQ (uG j) gNil)) x σ H R->gTup K 2 (GQ (uG i) (GQ (uG j) gNil)) x σ H R':=fun x σ H R R' hr h=>by
 obtain ⟨a,xs,e,sq,hl,v,r,e1,v2,r2,e2,e3,q⟩:=h
 exact ⟨a,xs,e,sq,hl,v,r,e1,v2,r2,e2,e3,hr _ _ q⟩
section
variable {X:Cx}
noncomputable def rBits:V->List V->Hp->VK->Prop:=fun x vs H Q=>∃ i:Int,x = .int i/\vs=[]/\Q (.int ((Dd i:Nat):Int)) H
theorem ag5:MtR X "int.bit_length" rBits:=by
 intro pins s σ H x vs v us Q I rx rv h
 obtain ⟨i,rfl,rfl,q⟩:=h
 obtain ⟨t,rfl⟩:∃ t,v=Value.int i t:=rx
 have hus:=rv.zero
 subst hus
 exact call_gives adq (typeIs_int s i t) PySem.F.entry_int_bit_length (PySem.F.args_int_bit_length_1 _) (aiY i t) (show Made.post _ _ _ from ⟨.int _,H,I.tok _,⟨_,rfl⟩,q⟩)
end
theorem ag6 {r:List V->Hp->VK->Prop} {ta:TA} (hr:∀ vs H (Q Q':VK),(∀ y H,Q y H->Q' y H)->r vs H Q->r vs H Q') (ma:Dm ta):nQ (tCB r ta):=fun σ H Q Q' hq h=>ma σ H _ _ (fun vs H1 h1=>hr vs H1 Q Q' hq h1) h
theorem RJ {K:bh} {ta:TA} (ma:Dm ta):nQ (tCB (Zf K) ta):=ag6 (fun vs H Q Q' hq h=>by
 rcases h with ⟨x,n,e,l,q⟩ | ⟨a,kvs,e,r,q⟩
 ·exact .inl ⟨x,n,e,l,hq _ _ q⟩
 ·exact .inr ⟨a,kvs,e,r,hq _ _ q⟩) ma
theorem Ie {K:bh} {ta:TE} {f:Str} (ma:nQ ta):nQ (tFld K ta f):=fun σ H Q Q' hq h=>ma σ H _ _ (fun x H1 h1=>by
 obtain ⟨a,C,dx,fs,v,e,h2,c,n,l,q⟩:=h1
 exact ⟨a,C,dx,fs,v,e,h2,c,n,l,hq _ _ q⟩) h
section
variable {X:Cx}
theorem ag7 {x:Int} (h:0<=x):x<2 ^ Dd x:=by
 unfold Dd
 split
 ·rename_i hx
  have:x=0:=by simpa using hx
  rw [this];decide
 ·have h1:x.natAbs<2 ^ (x.natAbs.log2+1):=Nat.lt_log2_self
  have h2:((x.natAbs:Nat):Int)<((2 ^ (x.natAbs.log2+1):Nat):Int):=Int.ofNat_lt.mpr h1
  rw [uy] at h2
  have h3:((x.natAbs:Nat):Int)=x:=by lia
  rw [h3] at h2
  exact h2
end
theorem RK (ns:List Int) (lo hi:Option Int):∃ ms:List Int,QD (ns.map V.int) lo hi=ms.map V.int/\ms.length<=ns.length/\∀ m∈ms,m∈ns:=by
 refine ⟨(ns.drop (HT.sIx (ns.map V.int).length 0 lo)).take (HT.sIx (ns.map V.int).length (ns.map V.int).length hi-HT.sIx (ns.map V.int).length 0 lo),?_,?_,fun m hm=>FZ (abZ hm)⟩
 ·unfold QD
  rw [List.map_take,Mx]
 ·rw [gJ,wY]
  lia
theorem int_at {ns:List Int} {i:Nat} {y:V} (h:(ns.map V.int)[i]? = some y):∃ z,ns[i]? = some z/\y=V.int z:=by
 rw [iB] at h
 cases e:ns[i]? with
 | none=>rw [e] at h;cases h
 | some z=>rw [e] at h;exact ⟨z,rfl,(dB h).symm⟩
theorem zM {ns:List Int} {i:Int} (h0:0<=i) (h1:i<(ns.length:Int)):∃ v,v∈ns/\atI (ns.map V.int) i=some (.int v):=by
 have e:ns[i.toNat]? = some (ns[i.toNat]'tb_g%):=gR tb_g%
 refine ⟨_,List.mem_of_getElem? e,?_⟩
 have:=gO (xs:=ns.map V.int) (j:=i.toNat) (v:=.int (ns[i.toNat]'tb_g%)) (by rw [iB,e];rfl)
 rwa [ac5 h0] at this
theorem four {a b c d v:Int} (h:v∈[a,b,c,d]):v=a\/v=b\/v=c\/v=d:=by simpa using h
theorem afy (f:Str) (v:V):bU f v []=[(f,v)]:=rfl
theorem ag8 (f:Str) (v:V) (r:List (Str × V)) (u:V):bU f v ((f,u)::r)=(f,v)::r:=by
 unfold bU
 rw [if_pos rfl]
theorem ag9 {f g:Str} (h:¬ g=f) (v:V) (r:List (Str × V)) (u:V):bU f v ((g,u)::r)=(g,u)::bU f v r:=by
 rw [bU,if_neg h]
theorem cV {f m:Str} {v:V} {r:List (Str × V)} (h:¬ m=f):((f,v)::r).lookup m=r.lookup m:=by
 rw [Ua]
 rw [beq_eq_false_iff_ne.mpr h]
theorem RL {a:Addr}:decide (V.ref a=V.non)=false:=decide_eq_false (by intro z;cases z)
theorem RM:decide (V.non=V.non)=true:=decide_eq_true rfl
theorem cW {p a:Addr} {H H':Hp} (b:But p H H') (h:H' a=none) (n:a≠p):H a=none:=by
 cases e:H a with
 | none=>rfl
 | some o=>rw [b a o e n] at h;cases h
section
variable {X:Cx}
noncomputable def rGetN:V->V->Hp->VK->Prop:=fun o i H Q=>∃ (p:Addr) (xs:List V) (k:Nat) (v:V),o = .ref p/\i = .int k/\H p=some (.lst xs)/\xs[k]? = some v/\Q v H
theorem RN:PGet X rGetN:=by
 intro pins s σ H o i ov iv Q I ro ri h
 obtain ⟨p,xs,k,v,rfl,rfl,hp,hk,q⟩:=h
 cases ro
 obtain ⟨t,rfl⟩:=ri
 obtain ⟨its,r,pl,hz⟩:=I.list (a:=p) (xs:=xs) (.inl (.inl hp))
 obtain ⟨w,ew,rw'⟩:=r.get hk
 have hl:=r.length
 have hn:=G9
 have hk2:=(fQ.mp hk).1
 exact wpAny_getItem_list pl.isList tb_g% tb_g% (by simpa using ew) ⟨v,H,I,rw',q⟩
end
end L2
--%BIG
set_option Elab.async false
set_option maxRecDepth 100000
set_option maxHeartbeats 4000000
namespace My
open PySem L2 MG
set_option genInjectivity false in
set_option genSizeOf false in
structure Ad where
 cX:Addr
 gW:Addr
 gK:Addr
 gY:Addr
 qx:Addr
 bw:Addr
 BW:Addr
 f'0:Addr
 rR:FuncData
 f'1:Addr
 p8:FuncData
 f'2:Addr
 Ph:FuncData
 f'3:Addr
 rT:FuncData
 f'4:Addr
 nR:FuncData
 f'5:Addr
 Ig:FuncData
 f'6:Addr
 Cv:FuncData
 f'7:Addr
 rW:FuncData
 f'8:Addr
 uN:FuncData
 f'9:Addr
 Ih:FuncData
 Qe:Addr
 qe:FuncData
 VF:Addr
 lY:FuncData
 VG:Addr
 rY:FuncData
 VH:Addr
 qg:FuncData
 VJ:Addr
 Ii:FuncData
 VL:Addr
 Ys:FuncData
 Qf:Addr
 lZ:FuncData
 VN:Addr
 yx:FuncData
 VP:Addr
 jO:FuncData
 VR:Addr
 nT:FuncData
 Qg:Addr
 mj:FuncData
 V0:Addr
 Ij:FuncData
 V1:Addr
 Cw:FuncData
 V2:Addr
 nU:FuncData
 V3:Addr
 nY:FuncData
 V4:Addr
 yC:FuncData
 Qh:Addr
 nZ:FuncData
 V5:Addr
 qj:FuncData
 V6:Addr
 n8:FuncData
 V7:Addr
 oh:FuncData
 V8:Addr
 mC:FuncData
 V9:Addr
 mD:FuncData
 Qi:Addr
 mF:FuncData
 Wa:Addr
 Pj:FuncData
 Wb:Addr
 rZ:FuncData
 Wc:Addr
 sy:FuncData
 Wd:Addr
 ql:FuncData
 Wf:Addr
 yD:FuncData
 Wg:Addr
 sE:FuncData
 Wh:Addr
 Ik:FuncData
 Wj:Addr
 jP:FuncData
 Wk:Addr
 Cy:FuncData
 Wl:Addr
 ou:FuncData
 Wm:Addr
 yE:FuncData
 Wo:Addr
 kJ:FuncData
 Wq:Addr
 jQ:FuncData
 Wr:Addr
 sH:FuncData
 Ws:Addr
 Il:FuncData
 Wt:Addr
 qm:FuncData
 Wu:Addr
 oA:FuncData
 Wv:Addr
 qp:FuncData
 Ww:Addr
 qt:FuncData
 Wx:Addr
 Pk:FuncData
 Z9:Addr
 afz:FuncData
variable {A:Ad} {H H' G G':Hp} {room n i h pw R:Nat} {C ks pool ns D:List Int} {fd:FuncData} {f dx t l e:Addr} {v reach r span k z th:Int} {m q p0:Str} {st s:Stmt} {ls:RG.Ls} {p:Int × Int} {α:Type} {σ:St} {c:Tab} {dvs:List V} {E:XK} {sp:Sp} {ta:TA}
structure Tx (K:bh) (mg:Str->Option Value) (A:Ad):Prop where
 bT:Cls K A.cX
 Pn:mg "Rungs" = some (.ref A.cX)
 afA:Mk K A.cX A.f'7
 zN:cN K A.cX "room"
 zO:cN K A.cX "total"
 wA:cN K A.cX "over"
 wB:cN K A.cX "under"
 qJ:cN K A.cX "turns"
 Dp:cN K A.cX "least"
 Dq:cN K A.cX "most"
 wC:cN K A.cX "rungs"
 dJ:Cls K A.gW
 RQ:mg "Window" = some (.ref A.gW)
 ah0:Mk K A.gW A.Qe
 zP:cN K A.gW "room"
 zQ:cN K A.gW "reach"
 mK:cN K A.gW "clock"
 zR:cN K A.gW "boxes"
 fJ:Cls K A.gK
 Im:mg "Distinct" = some (.ref A.gK)
 ah1:Mk K A.gK A.Qf
 zT:cN K A.gK "room"
 Dr:cN K A.gK "arrivals"
 uO:cN K A.gK "level"
 zU:cN K A.gK "kept"
 fK:Cls K A.gY
 yF:mg "Frequent" = some (.ref A.gY)
 afB:Mk K A.gY A.Qg
 zV:cN K A.gY "room"
 zW:cN K A.gY "total"
 wD:cN K A.gY "lost"
 Ds:cN K A.gY "counts"
 mL:Cls K A.qx
 KC:mg "Balance" = some (.ref A.qx)
 ah2:Mk K A.qx A.Qh
 Dt:cN K A.qx "span"
 wF:cN K A.qx "sums"
 bQ:Cls K A.bw
 Ip:mg "Keepsake" = some (.ref A.bw)
 ah3:Mk K A.bw A.Qi
 zX:cN K A.bw "room"
 Du:cN K A.bw "reach"
 wG:cN K A.bw "span"
 Dv:cN K A.bw "came"
 Dw:cN K A.bw "went"
 Dy:cN K A.bw "up"
 Dz:cN K A.bw "down"
 uP:cN K A.bw "window"
 DG:cN K A.bw "seen"
 DK:cN K A.bw "balance"
 qK:mg "Unlike" = some (.ref A.BW)
 iK:Gi K A.BW [.type "ValueError",.type "Exception",.type "BaseException",.type "object"] "ValueError.__new__" = true
 F'0:Fun K "with_thing" "with_thing" s'0 A.f'0 A.rR
 b'0:Binds K A.rR ["lists","thing","weight"] []
 Pq:mg "with_thing" = some (.ref A.f'0)
 F'1:Fun K "left_behind" "left_behind" s'1 A.f'1 A.p8
 b'1:Binds K A.p8 ["things"] []
 Jw:mg "left_behind" = some (.ref A.f'1)
 F'2:Fun K "risen" "risen" s'2 A.f'2 A.Ph
 b'2:Binds K A.Ph ["things","turns"] []
 aha:mg "risen" = some (.ref A.f'2)
 F'3:Fun K "turn" "Rungs.turn" s'3 A.f'3 A.rT
 b'3:Binds K A.rT ["self","stands_for"] []
 Pr:Meth K A.cX "turn" A.f'3
 F'4:Fun K "settle" "Rungs.settle" s'4 A.f'4 A.nR
 b'4:Binds K A.nR ["self","lists"] []
 uQ:Meth K A.cX "settle" A.f'4
 F'5:Fun K "lesser" "lesser" s'5 A.f'5 A.Ig
 b'5:Binds K A.Ig ["one","other"] []
 RT:mg "lesser" = some (.ref A.f'5)
 F'6:Fun K "greater" "greater" s'6 A.f'6 A.Cv
 b'6:Binds K A.Cv ["one","other"] []
 KD:mg "greater" = some (.ref A.f'6)
 F'7:Fun K "__init__" "Rungs.__init__" s'7 A.f'7 A.rW
 b'7:Binds K A.rW ["self","room"] []
 ahb:Meth K A.cX "__init__" A.f'7
 F'8:Fun K "add" "Rungs.add" s'8 A.f'8 A.uN
 b'8:Binds K A.uN ["self","thing","weight"] []
 DN:Meth K A.cX "add" A.f'8
 F'9:Fun K "joined" "joined" s'9 A.f'9 A.Ih
 b'9:Binds K A.Ih ["boxes","room"] []
 afC:mg "joined" = some (.ref A.f'9)
 F'10:Fun K "__init__" "Window.__init__" s'10 A.Qe A.qe
 b'10:Binds K A.qe ["self","room","reach"] []
 agl:Meth K A.gW "__init__" A.Qe
 F'11:Fun K "settle" "Window.settle" s'11 A.VF A.lY
 b'11:Binds K A.lY ["self","boxes"] []
 mG:Meth K A.gW "settle" A.VF
 F'12:Fun K "add" "Window.add" s'12 A.VG A.rY
 b'12:Binds K A.rY ["self","weight"] []
 Pu:Meth K A.gW "add" A.VG
 F'13:Fun K "idle" "Window.idle" s'13 A.VH A.qg
 b'13:Binds K A.qg ["self","many"] []
 wH:Meth K A.gW "idle" A.VH
 F'14:Fun K "spread" "spread" s'14 A.VJ A.Ii
 b'14:Binds K A.Ii ["thing"] []
 afD:mg "spread" = some (.ref A.VJ)
 F'15:Fun K "mark" "mark" s'15 A.VL A.Ys
 b'15:Binds K A.Ys ["thing"] []
 afE:mg "mark" = some (.ref A.VL)
 F'16:Fun K "__init__" "Distinct.__init__" s'16 A.Qf A.lZ
 b'16:Binds K A.lZ ["self","room"] []
 abe:Meth K A.gK "__init__" A.Qf
 F'17:Fun K "of_marks" "of_marks" s'17 A.VN A.yx
 b'17:Binds K A.yx ["things","level"] []
 Ir:mg "of_marks" = some (.ref A.VN)
 F'18:Fun K "settle" "Distinct.settle" s'18 A.VP A.jO
 b'18:Binds K A.jO ["self","things"] []
 pG:Meth K A.gK "settle" A.VP
 F'19:Fun K "add" "Distinct.add" s'19 A.VR A.nT
 b'19:Binds K A.nT ["self","thing"] []
 Iu:Meth K A.gK "add" A.VR
 F'20:Fun K "__init__" "Frequent.__init__" s'20 A.Qg A.mj
 b'20:Binds K A.mj ["self","room"] []
 abf:Meth K A.gY "__init__" A.Qg
 F'21:Fun K "cut_of" "cut_of" s'21 A.V0 A.Ij
 b'21:Binds K A.Ij ["counts","room"] []
 afF:mg "cut_of" = some (.ref A.V0)
 F'22:Fun K "lowered" "lowered" s'22 A.V1 A.Cw
 b'22:Binds K A.Cw ["counts","cut"] []
 aaT:mg "lowered" = some (.ref A.V1)
 F'23:Fun K "fit" "Frequent.fit" s'23 A.V2 A.nU
 b'23:Binds K A.nU ["self","grown"] []
 uR:Meth K A.gY "fit" A.V2
 F'24:Fun K "add" "Frequent.add" s'24 A.V3 A.nY
 b'24:Binds K A.nY ["self","thing","weight"] []
 uU:Meth K A.gY "add" A.V3
 F'25:Fun K "with_row" "with_row" s'25 A.V4 A.yC
 b'25:Binds K A.yC ["sums","thing","weight"] []
 Iw:mg "with_row" = some (.ref A.V4)
 F'26:Fun K "__init__" "Balance.__init__" s'26 A.Qh A.nZ
 b'26:Binds K A.nZ ["self","span"] []
 afG:Meth K A.qx "__init__" A.Qh
 F'27:Fun K "put" "Balance.put" s'27 A.V5 A.qj
 b'27:Binds K A.qj ["self","thing","weight"] []
 Jx:Meth K A.qx "put" A.V5
 F'28:Fun K "take" "Balance.take" s'28 A.V6 A.n8
 b'28:Binds K A.n8 ["self","thing","weight"] []
 Iz:Meth K A.qx "take" A.V6
 F'29:Fun K "put" "Keepsake.put" s'29 A.V7 A.oh
 b'29:Binds K A.oh ["self","thing","weight"] []
 IK:Meth K A.bw "put" A.V7
 F'30:Fun K "take" "Keepsake.take" s'30 A.V8 A.mC
 b'30:Binds K A.mC ["self","thing","weight"] []
 Ec:Meth K A.bw "take" A.V8
 F'31:Fun K "idle" "Keepsake.idle" s'31 A.V9 A.mD
 b'31:Binds K A.mD ["self","many"] []
 Ed:Meth K A.bw "idle" A.V9
 F'32:Fun K "__init__" "Keepsake.__init__" s'32 A.Qi A.mF
 b'32:Binds K A.mF ["self","room","reach","span"] []
 abg:Meth K A.bw "__init__" A.Qi
 aaU:Fun K "_law_mix" "_law_mix" s'33 A.Wa A.Pj
 afH:Binds K A.Pj ["_law_cell","_law_factor","_law_prime"] []
 zY:mg "_law_mix" = some (.ref A.Wa)
 F'34:Fun K "_law_far_back" "_law_far_back" s'34 A.Wb A.rZ
 b'34:Binds K A.rZ [] []
 Px:mg "_law_far_back" = some (.ref A.Wb)
 F'35:Fun K "_law_thing_by" "_law_thing_by" s'35 A.Wc A.sy
 b'35:Binds K A.sy ["_law_cell"] []
 Py:mg "_law_thing_by" = some (.ref A.Wc)
 F'36:Fun K "_law_weight_by" "_law_weight_by" s'36 A.Wd A.ql
 b'36:Binds K A.ql ["_law_cell"] []
 Jy:mg "_law_weight_by" = some (.ref A.Wd)
 F'37:Fun K "_law_row_by" "_law_row_by" s'37 A.Wf A.yD
 b'37:Binds K A.yD ["_law_cell"] []
 IV:mg "_law_row_by" = some (.ref A.Wf)
 F'38:Fun K "_law_shape_by" "_law_shape_by" s'38 A.Wg A.sE
 b'38:Binds K A.sE ["_law_cell"] []
 Pz:mg "_law_shape_by" = some (.ref A.Wg)
 F'39:Fun K "_law_done" "_law_done" s'39 A.Wh A.Ik
 b'39:Binds K A.Ik ["_law_keepsake","_law_row"] []
 afI:mg "_law_done" = some (.ref A.Wh)
 F'40:Fun K "poured_frequent" "poured_frequent" s'40 A.Wj A.jP
 b'40:Binds K A.jP ["one","other"] []
 pH:mg "poured_frequent" = some (.ref A.Wj)
 F'41:Fun K "list_at" "list_at" s'41 A.Wk A.Cy
 b'41:Binds K A.Cy ["lists","place"] []
 KH:mg "list_at" = some (.ref A.Wk)
 F'42:Fun K "poured_rungs" "poured_rungs" s'42 A.Wl A.ou
 b'42:Binds K A.ou ["one","other"] []
 uV:mg "poured_rungs" = some (.ref A.Wl)
 F'43:Fun K "followed" "followed" s'43 A.Wm A.yE
 b'43:Binds K A.yE ["one","other"] []
 Yt:mg "followed" = some (.ref A.Wm)
 F'44:Fun K "poured_balance" "poured_balance" s'44 A.Wo A.kJ
 b'44:Binds K A.kJ ["one","other"] []
 Cz:mg "poured_balance" = some (.ref A.Wo)
 F'45:Fun K "poured_distinct" "poured_distinct" s'45 A.Wq A.jQ
 b'45:Binds K A.jQ ["one","other"] []
 zZ:mg "poured_distinct" = some (.ref A.Wq)
 F'46:Fun K "empty_like" "empty_like" s'46 A.Wr A.sH
 b'46:Binds K A.sH ["keepsake"] []
 PB:mg "empty_like" = some (.ref A.Wr)
 F'47:Fun K "poured" "poured" s'47 A.Ws A.Il
 b'47:Binds K A.Il ["one","other"] []
 afJ:mg "poured" = some (.ref A.Ws)
 F'48:Fun K "_law_totals_by" "_law_totals_by" s'48 A.Wt A.qm
 b'48:Binds K A.qm ["_law_totals","_law_row"] []
 Jz:mg "_law_totals_by" = some (.ref A.Wt)
 F'49:Fun K "_law_counts_few" "_law_counts_few" s'49 A.Wu A.oA
 b'49:Binds K A.oA ["_law_frequent","_law_room","_law_total"] []
 uW:mg "_law_counts_few" = some (.ref A.Wu)
 F'50:Fun K "_law_rungs_few" "_law_rungs_few" s'50 A.Wv A.qp
 b'50:Binds K A.qp ["_law_rungs","_law_room","_law_total"] []
 wI:mg "_law_rungs_few" = some (.ref A.Wv)
 F'51:Fun K "_law_boxes_few" "_law_boxes_few" s'51 A.Ww A.qt
 b'51:Binds K A.qt ["_law_boxes","_law_room"] []
 JB:mg "_law_boxes_few" = some (.ref A.Ww)
 F'52:Fun K "_law_few" "_law_few" s'52 A.Wx A.Pk
 b'52:Binds K A.Pk ["_law_keepsake","_law_totals"] []
 ahc:mg "_law_few" = some (.ref A.Wx)
 F'53:Fun K "law" "law" s'53 A.Z9 A.afz
 b'53:Binds K A.afz ["_law_script"] []
 g_law:mg "law" = some (.ref A.Z9)
 afK:mg "dict" = none
 g8:mg "len" = none
 IW:mg "list" = none
 ZM:mg "max" = none
 n_min:mg "min" = none
 pI:mg "range" = none
 Ja:mg "reversed" = none
 n_set:mg "set" = none
 oE:mg "sorted" = none
 ZP:mg "sum" = none
 n_zip:mg "zip" = none
 ake:∃ u,mg "MOST" = some u/\RelV (.int 1152921504606846976) u
 Ef:∃ u,mg "MOST_HALVINGS" = some u/\RelV (.int 60) u
 afL:∃ u,mg "SPREAD" = some u/\RelV (.int 770093176312745717) u
 akP:Ut K (.type "int") (.type "int")=some true
variable {P:aN} {w:World} {K:bh} {mg:Str->Option Value} {base:Heap} {A:Ad}
local macro_rules | `(tactic| walk_at "sc") => `(tactic| exact ⟨rfl, rfl, rfl, by decide +kernel, rfl, by decide +kernel, by decide +kernel⟩)
theorem iu:aO ["lists","thing","weight","grown","place","bits"] ["lists","thing","weight"] (aH s'0):=by walk_at "sc"
theorem Jb:aO ["things"] ["things"] (aH s'1):=by walk_at "sc"
theorem afM:aO ["things","turns"] ["things","turns"] (aH s'2):=by walk_at "sc"
theorem JC:aO ["self","stands_for"] ["self","stands_for"] (aH s'3):=by walk_at "sc"
theorem eY:aO ["self","lists","settled","place","stands_for","things"] ["self","lists"] (aH s'4):=by walk_at "sc"
theorem KJ:aO ["one","other","known"] ["one","other"] (aH s'5):=by walk_at "sc"
theorem Jc:aO ["one","other","known"] ["one","other"] (aH s'6):=by walk_at "sc"
theorem JD:aO ["self","room"] ["self","room"] (aH s'7):=by walk_at "sc"
theorem PJ:aO ["self","thing","weight"] ["self","thing","weight"] (aH s'8):=by walk_at "sc"
theorem iU:aO ["boxes","room","done","newer","at_hand","box"] ["boxes","room"] (aH s'9):=by walk_at "sc"
theorem Jd:aO ["self","room","reach"] ["self","room","reach"] (aH s'10):=by walk_at "sc"
theorem kO:aO ["self","boxes","edge","within"] ["self","boxes"] (aH s'11):=by walk_at "sc"
theorem JF:aO ["self","weight"] ["self","weight"] (aH s'12):=by walk_at "sc"
theorem Je:aO ["self","many"] ["self","many"] (aH s'13):=by walk_at "sc"
theorem aaV:aO ["thing"] ["thing"] (aH s'14):=by walk_at "sc"
theorem z8:aO ["thing","rest","halvings"] ["thing"] (aH s'15):=by walk_at "sc"
theorem CG:aO ["self","room"] ["self","room"] (aH s'16):=by walk_at "sc"
theorem RV:aO ["things","level"] ["things","level"] (aH s'17):=by walk_at "sc"
theorem jy:aO ["self","things","left"] ["self","things"] (aH s'18):=by walk_at "sc"
theorem Eh:aO ["self","thing"] ["self","thing"] (aH s'19):=by walk_at "sc"
theorem CJ:aO ["self","room"] ["self","room"] (aH s'20):=by walk_at "sc"
theorem KN:aO ["counts","room","falling"] ["counts","room"] (aH s'21):=by walk_at "sc"
theorem sI:aO ["counts","cut","left","thing","count"] ["counts","cut"] (aH s'22):=by walk_at "sc"
theorem tG:aO ["self","grown","cut"] ["self","grown"] (aH s'23):=by walk_at "sc"
theorem tH:aO ["self","thing","weight","grown"] ["self","thing","weight"] (aH s'24):=by walk_at "sc"
theorem lN:aO ["sums","thing","weight","grown","share","held"] ["sums","thing","weight"] (aH s'25):=by walk_at "sc"
theorem Ei:aO ["self","span"] ["self","span"] (aH s'26):=by walk_at "sc"
theorem Jf:aO ["self","thing","weight"] ["self","thing","weight"] (aH s'27):=by walk_at "sc"
theorem Ej:aO ["self","thing","weight"] ["self","thing","weight"] (aH s'28):=by walk_at "sc"
theorem Ek:aO ["self","thing","weight"] ["self","thing","weight"] (aH s'29):=by walk_at "sc"
theorem CN:aO ["self","thing","weight"] ["self","thing","weight"] (aH s'30):=by walk_at "sc"
theorem CP:aO ["self","many"] ["self","many"] (aH s'31):=by walk_at "sc"
theorem CQ:aO ["self","room","reach","span"] ["self","room","reach","span"] (aH s'32):=by walk_at "sc"
theorem afN:aO ["_law_cell","_law_factor","_law_prime"] ["_law_cell","_law_factor","_law_prime"] (aH s'33):=by walk_at "sc"
theorem lB:aO ["_law_way","_law_turn"] [] (aH s'34):=by walk_at "sc"
theorem qu:aO ["_law_cell","_law_how","_law_high"] ["_law_cell"] (aH s'35):=by walk_at "sc"
theorem Jg:aO ["_law_cell"] ["_law_cell"] (aH s'36):=by walk_at "sc"
theorem pJ:aO ["_law_cell","_law_kind","_law_thing","_law_weight"] ["_law_cell"] (aH s'37):=by walk_at "sc"
theorem lC:aO ["_law_cell","_law_room","_law_reach","_law_span"] ["_law_cell"] (aH s'38):=by walk_at "sc"
theorem aaW:aO ["_law_keepsake","_law_row"] ["_law_keepsake","_law_row"] (aH s'39):=by walk_at "sc"
theorem fV:aO ["one","other","poured","together","thing","count"] ["one","other"] (aH s'40):=by walk_at "sc"
theorem Yu:aO ["lists","place"] ["lists","place"] (aH s'41):=by walk_at "sc"
theorem jo:aO ["one","other","poured","together","place"] ["one","other"] (aH s'42):=by walk_at "sc"
theorem uX:aO ["one","other","both","behind"] ["one","other"] (aH s'43):=by walk_at "sc"
theorem pK:aO ["one","other","poured"] ["one","other"] (aH s'44):=by walk_at "sc"
theorem oF:aO ["one","other","poured"] ["one","other"] (aH s'45):=by walk_at "sc"
theorem JG:aO ["keepsake"] ["keepsake"] (aH s'46):=by walk_at "sc"
theorem KQ:aO ["one","other","both"] ["one","other"] (aH s'47):=by walk_at "sc"
theorem uY:aO ["_law_totals","_law_row","_law_told"] ["_law_totals","_law_row"] (aH s'48):=by walk_at "sc"
theorem tK:aO ["_law_frequent","_law_room","_law_total","_law_counts"] ["_law_frequent","_law_room","_law_total"] (aH s'49):=by walk_at "sc"
theorem iQ:aO ["_law_rungs","_law_room","_law_total","_law_lists","_law_weight","_law_h"] ["_law_rungs","_law_room","_law_total"] (aH s'50):=by walk_at "sc"
theorem fW:aO ["_law_boxes","_law_room","_law_weight","_law_grown","_law_bound","_law_pair"] ["_law_boxes","_law_room"] (aH s'51):=by walk_at "sc"
theorem RW:aO ["_law_keepsake","_law_totals","_law_room"] ["_law_keepsake","_law_totals"] (aH s'52):=by walk_at "sc"
theorem jz:aO ["_law_script","_law_shape","_law_many","_law_kept_ones","_law_totals","_law_pours","_law_bursts","_law_cell","_law_at","_law_other","_law_rows","_law_row"] ["_law_script"] (aH s'53):=by walk_at "sc"
noncomputable def afO (K:bh):Sp:=fun vs H Q _=>∃ (a:Addr) (ns:List Int),vs=[.ref a]/\SqL K H a (ns.map V.int)/\ns.length<=63/\∀ H',Q (.bl true) H'
theorem Jh (h:n<=20000):n<sizeLine:=Gk h (by decide)
local macro_rules | `(tactic| walk_at "rec") => `(tactic| repeat first | rw [afy] | rw [ag8] | (rw [ag9 ?h]; (case h => decide +kernel)))
noncomputable def rg (aD bI cF bJ bK bL cG bM:V):List (Str × V):=[("room",aD),("total",bI),("over",cF),("under",bJ),("turns",bK),("least",bL),("most",cG),("rungs",bM)]
theorem vK (aD bI cF bJ bK bL cG bM:V):(rg aD bI cF bJ bK bL cG bM).lookup ("room" : Str)=some aD:=by rfl
theorem z9 (aD bI cF bJ bK bL cG bM:V):(rg aD bI cF bJ bK bL cG bM).lookup ("total" : Str)=some bI:=by rfl
theorem Aa (aD bI cF bJ bK bL cG bM:V):(rg aD bI cF bJ bK bL cG bM).lookup ("over" : Str)=some cF:=by rfl
theorem uZ (aD bI cF bJ bK bL cG bM:V):(rg aD bI cF bJ bK bL cG bM).lookup ("under" : Str)=some bJ:=by rfl
theorem oG (aD bI cF bJ bK bL cG bM:V):(rg aD bI cF bJ bK bL cG bM).lookup ("turns" : Str)=some bK:=by rfl
theorem Ji (aD bI cF bJ bK bL cG bM:V):(rg aD bI cF bJ bK bL cG bM).lookup ("least" : Str)=some bL:=by rfl
theorem PK (aD bI cF bJ bK bL cG bM:V):(rg aD bI cF bJ bK bL cG bM).lookup ("most" : Str)=some cG:=by rfl
theorem qL (aD bI cF bJ bK bL cG bM:V):(rg aD bI cF bJ bK bL cG bM).lookup ("rungs" : Str)=some bM:=by rfl
theorem akf (aD bI cF bJ bK bL cG bM:V):bU "rungs" bM (bU "most" cG (bU "least" bL (bU "turns" bK (bU "under" bJ (bU "over" cF (bU "total" bI (bU "room" aD [])))))))=rg aD bI cF bJ bK bL cG bM:=by
 unfold rg
 walk_at "rec"
theorem Ab (aD bI cF bJ bK bL cG bM y:V):bU "total" y (rg aD bI cF bJ bK bL cG bM)=rg aD y cF bJ bK bL cG bM:=by
 unfold rg
 walk_at "rec"
theorem DQ (aD bI cF bJ bK bL cG bM y:V):bU "over" y (rg aD bI cF bJ bK bL cG bM)=rg aD bI y bJ bK bL cG bM:=by
 unfold rg
 walk_at "rec"
theorem Ac (aD bI cF bJ bK bL cG bM y:V):bU "under" y (rg aD bI cF bJ bK bL cG bM)=rg aD bI cF y bK bL cG bM:=by
 unfold rg
 walk_at "rec"
theorem sJ (aD bI cF bJ bK bL cG bM y:V):bU "turns" y (rg aD bI cF bJ bK bL cG bM)=rg aD bI cF bJ y bL cG bM:=by
 unfold rg
 walk_at "rec"
theorem Ae (aD bI cF bJ bK bL cG bM y:V):bU "least" y (rg aD bI cF bJ bK bL cG bM)=rg aD bI cF bJ bK y cG bM:=by
 unfold rg
 walk_at "rec"
theorem DR (aD bI cF bJ bK bL cG bM y:V):bU "most" y (rg aD bI cF bJ bK bL cG bM)=rg aD bI cF bJ bK bL y bM:=by
 unfold rg
 walk_at "rec"
theorem PL (aD bI cF bJ bK bL cG bM y:V):bU "rungs" y (rg aD bI cF bJ bK bL cG bM)=rg aD bI cF bJ bK bL cG y:=by
 unfold rg
 walk_at "rec"
theorem rgN {aD bI cF bJ bK bL cG bM:V} (h:m∉[("room" : Str),("total" : Str),("over" : Str),("under" : Str),("turns" : Str),("least" : Str),("most" : Str),("rungs" : Str)]):(rg aD bI cF bJ bK bL cG bM).lookup m=none:=by
 simp only [cU,jd,or_false,not_or] at h
 obtain ⟨yG,ahd,akg,ahe,ahf,ahg,akh,ahh⟩:=h
 unfold rg
 rw [cV yG,cV ahd,cV akg,cV ahe,cV ahf,cV ahg,cV akh,cV ahh]
 rfl
/-- None,or a whole number -/
noncomputable def oV:Option Int->V
 | none=>.non
 | some i=>.int i
/-- a list of lists -/
structure LL (H:Hp) (a:Addr) (bs:List Addr) (ls:RG.Ls):Prop where
 o:H a=some (.lst (bs.map V.ref))
 n:bs.length=ls.length
 e:∀ (i:Nat) (b:Addr) (l:List Int),bs[i]? = some b->ls[i]? = some l->H b=some (.lst (l.map V.int))
 x:a∉bs
section
variable {a c:Addr} {bs:List Addr} {m:List Int}
theorem LL.same (h:LL H a bs ls) (s:Same H H'):LL H' a bs ls:=⟨s _ _ h.o,h.n,fun i b l e1 e2=>s _ _ (h.e i b l e1 e2),h.x⟩
theorem LL.at (h:LL H a bs ls) (hi:i<ls.length):∃ b l,bs[i]? = some b/\ls[i]? = some l/\H b=some (.lst (l.map V.int)):=by
 have hb:i<bs.length:=by rw [h.n];exact hi
 exact ⟨bs[i],ls[i],gR hb,gR hi,h.e i _ _ (gR hb) (gR hi)⟩
theorem LL.ix {b:Addr} (h:bs[i]? = some b):atI (bs.map V.ref) (i:Int)=some (.ref b):=gO (by rw [iB,h];rfl)
theorem mQ {j:Nat} (h:j<n):ixN n (j:Int)=some j:=by
 unfold ixN
 rw [if_pos tb_g%,if_pos tb_g%]
 simp
theorem LL.set (h:LL H a bs ls) (hc:H c=some (.lst (m.map V.int))) (nc:c≠a):LL (upd H a (.lst ((bs.map V.ref).set i (.ref c)))) a (bs.set i c) (ls.set i m):=by
 refine ⟨by rw [aj,List.map_set],by rw [jU,jU,h.n],fun j b l e1 e2=>?_,fun z=>?_⟩
 ·by_cases ij:i=j
  ·subst ij
   rw [List.getElem?_set] at e1 e2
   rw [if_pos rfl] at e1 e2
   split at e1
   ·split at e2
    ·obtain rfl:=dB e1
     obtain rfl:=dB e2
     rw [au nc];exact hc
    ·cases e2
   ·cases e1
  ·rw [Bg ij] at e1 e2
   have nb:b≠a:=fun z=>h.x (by rw [<- z];exact List.mem_of_getElem? e1)
   rw [au nb]
   exact h.e j b l e1 e2
 ·rcases vW z with y | y
  ·exact h.x y
  ·exact nc y.symm
theorem LL.app (h:LL H a bs ls) (hc:H c=some (.lst (m.map V.int))) (nc:c≠a):LL (upd H a (.lst (bs.map V.ref++[.ref c]))) a (bs++[c]) (ls++[m]):=by
 refine ⟨by rw [aj,dN];rfl,by rw [dh,dh,h.n];rfl,fun j b l e1 e2=>?_,fun z=>?_⟩
 ·rcases jW j bs.length with lt | ge
  ·rw [FN lt] at e1
   rw [FN (by rw [<- h.n];exact lt)] at e2
   have nb:b≠a:=fun z=>h.x (by rw [<- z];exact List.mem_of_getElem? e1)
   rw [au nb]
   exact h.e j b l e1 e2
  ·rw [yL ge] at e1
   rw [yL (by rw [<- h.n];exact ge),<- h.n] at e2
   obtain e:j-bs.length=0:=by
    have:=(fQ.mp e1).1
    have:j-bs.length<1:=this
    lia
   rw [e] at e1 e2
   obtain rfl:=dB e1
   obtain rfl:=dB e2
   rw [au nc];exact hc
 ·rcases dg.mp z with y | y
  ·exact h.x y
  ·exact nc (d8.mp y).symm
/-- the same lists,in a new list -/
theorem LL.copy {g:Addr} (h:LL H a bs ls) (hg:H g=none):LL (upd H g (.lst (bs.map V.ref))) g bs ls:=by
 have s:Same H (upd H g (.lst (bs.map V.ref))):=Same.new hg
 refine ⟨aj,h.n,(h.same s).e,fun z=>?_⟩
 obtain ⟨i,hi,e⟩:=wW.mp z
 obtain ⟨b,l,e1,_,e3⟩:=h.at (i:=i) (by rw [<- h.n];exact hi)
 rw [gR hi,e] at e1
 obtain rfl:=dB e1
 rw [hg] at e3;cases e3
end
noncomputable def aki (σ:St) (_:Hp):Nat:=match σ with
 | [_,_,_,_,_,some (.int n)]=>n.toNat
 | _=>0
noncomputable def ahi:Sp:=fun vs H Q _=>∃ (a:Addr) (bs:List Addr) (ls:RG.Ls) (t w:Int),vs=[.ref a,.int t,.int w]/\LL H a bs ls/\0<=w/\w<2 ^ 64/\ls.length<=800/\(∀ l∈ls,l.length<=900) /\
 ∀ (g:Addr) (bs':List Addr) (H':Hp),H g=none->LL H' g bs' (RG.gH t ls w.toNat)->Same H H'->(∀ c∈bs',c∈bs\/H c=none)->Q (.ref g) H'
theorem ok'0 (T:Tx K mg A):cY P w K mg base CX0 1 A.f'0 A.rR ["lists","thing","weight"] ahi:=by
 k_dat (T.F'0.ok,iu) "a"
 ·obtain ⟨a,bs,ls,t,w,rfl,_⟩:=h
  rfl
 ·obtain ⟨a,bs0,ls,t,w,rfl,hL,w0,w64,hn,h9,q⟩:=h
  have w64':w.toNat<2 ^ 64:=by lia
  refine ⟨_,(aq (aV (i:=3) iu.nd rfl (Or.inl rfl) (mU (yg rfl) (by rfl) T.IW UJ (ao (pv 0) aB)))
   (aq (aV (i:=4) iu.nd rfl (Or.inl rfl) aA)
   (aq (aV (i:=5) iu.nd rfl (Or.inl rfl) (pv 2))
   (aq (yZ oX (aR v8 (pv 5) aA (aX _)) (aq (d9 (aR mJ (pv 4) (bF cD (by rfl) T.g8 gQ (ao (pv 3) aB)) (aX _)) (aF (cR (Ka BK Bx BJ jE (pv 3) (ao (gG aB) aB)))) cQ)
   (aq (d9 (aR mJ (aJ dF (pv 5) aA) aA (aX _)) (aF (rD (bF (jM rfl) (by rfl) T.oE Br (ao (aJ yd (cI (ixG (bN hr)) (pv 3) (pv 4) (fun _ _=>rfl)) (gG (ao (pv 1) aB))) aB)) (rC (pv 3) (pv 4) (setG (bN hr))))) cQ)
   (aq (aV (i:=4) iu.nd rfl (Or.inl rfl) (aJ bW (pv 4) aA))
   (aF (aV (i:=5) iu.nd rfl (Or.inl rfl) (aJ gw (pv 5) aA)))))))
   (aF (cC (pv 3))))))),?_⟩
  refine ⟨_,rfl,.inl ⟨a,_,rfl,.inl (.inl (.inl hL.o)),fun g hg=>?_⟩⟩
  have L0:=hL.copy hg
  have s0:Same H (upd H g (.lst (bs0.map V.ref))):=Same.new hg
  generalize upd H g (.lst (bs0.map V.ref))=H1 at L0 s0 ⊢
  refine ⟨_,rfl,?_⟩
  refine za (fun σ G=>∃ (bs:List Addr) (ms:RG.Ls) (p k:Nat),σ=[some (.ref a),some (.int t),some (.int w),some (.ref g),some (.int (p:Int)),some (.int (k:Int))]/\LL G g bs ms/\Same H G/\p<=ms.length/\ms.length<=800/\k*2 ^ p<=w.toNat/\ms.take p++RG.gH t (ms.drop p) k=RG.gH t ls w.toNat/\(∀ l∈ms.drop p,l.length<=900)/\∀ c∈bs,c∈bs0\/H c=none) aki
   ⟨bs0,ls,0,w.toNat,by rw [ac5 w0];rfl,L0,s0,cB _,hn,by rw [Ux];lia,rfl,h9,fun c hc=>.inl hc⟩ ?_ ?_
  ·rintro σ G ⟨bs,ms,p,k,rfl,L,sG,hp,h8,kp,eq,b9,fr⟩
   refine ⟨_,rfl,_,_,rfl,rfl,_,rfl,eF (fun hc=>?_) (fun hc=>?_)⟩
   ·have k0:0<k:=by have:=of_decide_eq_true hc;lia
    have p64:p<=63:=by
     rcases jW p (63+1) with z | z
     ·lia
     ·have h1:=xJ (show 0<2 by decide) z
      have h2:=MP (2 ^ p) k0
      lia
    refine ⟨_,rfl,_,rfl,eX (.inl (.inl L.o)) ⟨rfl,_,rfl,eF (fun he=>?_) (fun he=>?_)⟩⟩
    ·have he:p=ms.length:=by
      have:=V.int.inj (of_decide_eq_true he)
      rw [bA,L.n] at this
      lia
     refine ⟨_,rfl,.inl ⟨rfl,_,.inl (.inl L.o)⟩,by show 0<=sizeLine;decide,fun c hc=>?_⟩
     have s1:Same G (upd G c (.lst [])):=Same.new hc
     have f1:(upd G c (.lst [])) c=some (.lst (([]:List Int).map V.int)):=aj
     generalize upd G c (.lst [])=G1 at s1 f1 ⊢
     have nc:c≠g:=aK (ak L.o hc)
     refine ⟨g,_,_,rfl,rfl,s1 _ _ L.o,cL (by rw [bA,L.n];lia),?_⟩
     have L2:=(L.same s1).app f1 nc
     have s2:Same H (upd G1 g (.lst (bs.map V.ref++[.ref c]))):=fun b o e=>by rw [au (ak e hg)];exact s1 _ _ (sG b o e)
     generalize upd G1 g (.lst (bs.map V.ref++[.ref c]))=GX at L2 s2 ⊢
     have lp:p<(ms++[[]]).length:=by rw [dh];show p<ms.length+1;lia
     have lp8:(ms++[[]]).length<=800:=by rw [dh];show ms.length+1<=800;lia
     have b92:∀ l∈(ms++[[]]).drop p,l.length<=900:=fun l hl=>by
      rw [he,acg] at hl
      rw [d8.mp hl];exact cB _
     have fr2:∀ x∈bs++[c],x∈bs0\/H x=none:=fun x hx=>by
      rcases dg.mp hx with z | z
      ·exact fr x z
      ·rw [d8.mp z];exact .inr (sG.free hc)
     have eq2:=(RG.Yk (t:=t) he (show k≠0 by lia)).trans eq
     obtain ⟨b,l,eb,el,hb⟩:=L2.at lp
     have hl9:l.length<=900:=b92 l (by rw [RG.fC el];exact cZ)
     have e9:∀ m,∀ l∈((ms++[[]]).set p m).drop (p+1),l.length<=900:=fun m l hl=>b92 l (by rw [RG.set_drop] at hl;rw [RG.fC el];exact gk _ hl)
     have st:=RG.HS (t:=t) el (show k≠0 by lia)
     have kh:k / 2*2 ^ (p+1)<=w.toNat:=by
      rw [pU,xM (2 ^ p) 2,<- Bl]
      exact iC (MP _ tb_g%) kp
     have ek:((k:Int) / 2)=((k / 2:Nat):Int):=by lia
     have ep:((p:Int)+1)=((p+1:Nat):Int):=by lia
     refine ⟨_,rfl,_,_,rfl,rfl,(by show (0:Int)<2;decide),rfl,_,rfl,eF (fun hb2=>?_) (fun hb2=>?_)⟩
     ·have o2:k % 2=1:=by have:=V.int.inj (of_decide_eq_true hb2);lia
      rw [if_pos o2] at st
      refine ⟨_,rfl,_,rfl,dO (.inl (.inl L2.o)) (v:=.ref b) (LL.ix eb) ⟨_,rfl,by show 1<=sizeLine;decide,fun c1 hc1=>?_⟩⟩
      have y1:Same GX (upd GX c1 (.lst [.int t])):=Same.new hc1
      have z1:(upd GX c1 (.lst [.int t])) c1=some (.lst [.int t]):=aj
      generalize upd GX c1 (.lst [.int t])=J1 at y1 z1 ⊢
      refine ⟨b,c1,_,_,rfl,rfl,y1 _ _ hb,z1,mH (cL (by rw [bA];show l.length+1<=1000;lia)),fun c2 hc2=>?_⟩
      rw [show l.map V.int++[V.int t]=(l++[t]).map V.int by rw [dN];rfl]
      have y2:Same J1 (upd J1 c2 (.lst ((l++[t]).map V.int))):=Same.new hc2
      have z2:(upd J1 c2 (.lst ((l++[t]).map V.int))) c2=some (.lst ((l++[t]).map V.int)):=aj
      generalize upd J1 c2 (.lst ((l++[t]).map V.int))=J2 at y2 z2 ⊢
      refine .inr ⟨c2,l++[t],rfl,.inl (.inl z2),by rw [dh];show l.length+1<1000;lia,fun c3 ns hc3 pm so=>?_⟩
      obtain rfl:=RG.nM pm so
      have y3:Same J2 (upd J2 c3 (.lst ((RG.srt (l++[t])).map V.int))):=Same.new hc3
      have z3:(upd J2 c3 (.lst ((RG.srt (l++[t])).map V.int))) c3=some (.lst ((RG.srt (l++[t])).map V.int)):=aj
      generalize upd J2 c3 (.lst ((RG.srt (l++[t])).map V.int))=J3 at y3 z3 ⊢
      have y03:=y1.trans (y2.trans y3)
      have M3:=L2.same y03
      have nc3:c3≠g:=aK (ak ((y1.trans y2) _ _ L2.o) hc3)
      refine ⟨_,rfl,_,rfl,.inl ⟨g,_,_,p,rfl,rfl,M3.o,mQ (by rw [bA,L2.n];exact lp),?_⟩⟩
      have M4:=M3.set (i:=p) z3 nc3
      have y4:Same H (upd J3 g (.lst (((bs++[c]).map V.ref).set p (.ref c3)))):=fun b o e=>by rw [au (ak e hg)];exact y03 _ _ (s2 b o e)
      generalize upd J3 g (.lst (((bs++[c]).map V.ref).set p (.ref c3)))=J4 at M4 y4 ⊢
      refine ⟨_,rfl,_,_,rfl,rfl,_,rfl,_,_,rfl,rfl,⟨by decide,by decide⟩,?_,?_⟩
      ·exact ⟨_,_,p+1,k / 2,by rw [<- ek,<- ep];rfl,M4,y4,by rw [jU];lia,by rw [jU];lia,kh,st.trans eq2,e9 _,fun c hc=>by
        rcases vW hc with z | z
        ·exact fr2 c z
        ·rw [z];exact .inr ((s2.trans (y1.trans y2)).free hc3)⟩
      ·show ((k:Int) / 2).toNat<(k:Int).toNat
       lia
     ·have o2:¬ k % 2=1:=fun z=>hb2 (decide_eq_true (congrArg V.int tb_g%))
      rw [if_neg o2,RG.zJ el] at st
      have e9':=e9 l
      rw [RG.zJ el] at e9'
      refine ⟨_,rfl,_,_,rfl,rfl,_,rfl,_,_,rfl,rfl,⟨by decide,by decide⟩,?_,?_⟩
      ·exact ⟨(bs++[c]),(ms++[[]]),p+1,k / 2,by rw [<- ek,<- ep];rfl,L2,s2,by lia,by lia,kh,st.trans eq2,e9',fr2⟩
      ·show ((k:Int) / 2).toNat<(k:Int).toNat
       lia
    ·have he:¬ p=ms.length:=fun z=>he (decide_eq_true (congrArg V.int (by rw [bA,L.n];lia)))
     have lp:p<ms.length:=by lia
     obtain ⟨b,l,eb,el,hb⟩:=L.at lp
     have hl9:l.length<=900:=b9 l (by rw [RG.fC el];exact cZ)
     have e9:∀ m,∀ l∈(ms.set p m).drop (p+1),l.length<=900:=fun m l hl=>b9 l (by rw [RG.set_drop] at hl;rw [RG.fC el];exact gk _ hl)
     have st:=RG.HS (t:=t) el (show k≠0 by lia)
     have kh:k / 2*2 ^ (p+1)<=w.toNat:=by
      rw [pU,xM (2 ^ p) 2,<- Bl]
      exact iC (MP _ tb_g%) kp
     have ek:((k:Int) / 2)=((k / 2:Nat):Int):=by lia
     have ep:((p:Int)+1)=((p+1:Nat):Int):=by lia
     refine ⟨_,rfl,_,_,rfl,rfl,(by show (0:Int)<2;decide),rfl,_,rfl,eF (fun hb2=>?_) (fun hb2=>?_)⟩
     ·have o2:k % 2=1:=by have:=V.int.inj (of_decide_eq_true hb2);lia
      rw [if_pos o2] at st
      refine ⟨_,rfl,_,rfl,dO (.inl (.inl L.o)) (v:=.ref b) (LL.ix eb) ⟨_,rfl,by show 1<=sizeLine;decide,fun c1 hc1=>?_⟩⟩
      have y1:Same G (upd G c1 (.lst [.int t])):=Same.new hc1
      have z1:(upd G c1 (.lst [.int t])) c1=some (.lst [.int t]):=aj
      generalize upd G c1 (.lst [.int t])=J1 at y1 z1 ⊢
      refine ⟨b,c1,_,_,rfl,rfl,y1 _ _ hb,z1,mH (cL (by rw [bA];show l.length+1<=1000;lia)),fun c2 hc2=>?_⟩
      rw [show l.map V.int++[V.int t]=(l++[t]).map V.int by rw [dN];rfl]
      have y2:Same J1 (upd J1 c2 (.lst ((l++[t]).map V.int))):=Same.new hc2
      have z2:(upd J1 c2 (.lst ((l++[t]).map V.int))) c2=some (.lst ((l++[t]).map V.int)):=aj
      generalize upd J1 c2 (.lst ((l++[t]).map V.int))=J2 at y2 z2 ⊢
      refine .inr ⟨c2,l++[t],rfl,.inl (.inl z2),by rw [dh];show l.length+1<1000;lia,fun c3 ns hc3 pm so=>?_⟩
      obtain rfl:=RG.nM pm so
      have y3:Same J2 (upd J2 c3 (.lst ((RG.srt (l++[t])).map V.int))):=Same.new hc3
      have z3:(upd J2 c3 (.lst ((RG.srt (l++[t])).map V.int))) c3=some (.lst ((RG.srt (l++[t])).map V.int)):=aj
      generalize upd J2 c3 (.lst ((RG.srt (l++[t])).map V.int))=J3 at y3 z3 ⊢
      have y03:=y1.trans (y2.trans y3)
      have M3:=L.same y03
      have nc3:c3≠g:=aK (ak ((y1.trans y2) _ _ L.o) hc3)
      refine ⟨_,rfl,_,rfl,.inl ⟨g,_,_,p,rfl,rfl,M3.o,mQ (by rw [bA,L.n];exact lp),?_⟩⟩
      have M4:=M3.set (i:=p) z3 nc3
      have y4:Same H (upd J3 g (.lst ((bs.map V.ref).set p (.ref c3)))):=fun b o e=>by rw [au (ak e hg)];exact y03 _ _ (sG b o e)
      generalize upd J3 g (.lst ((bs.map V.ref).set p (.ref c3)))=J4 at M4 y4 ⊢
      refine ⟨_,rfl,_,_,rfl,rfl,_,rfl,_,_,rfl,rfl,⟨by decide,by decide⟩,?_,?_⟩
      ·exact ⟨_,_,p+1,k / 2,by rw [<- ek,<- ep];rfl,M4,y4,by rw [jU];lia,by rw [jU];lia,kh,st.trans eq,e9 _,fun c hc=>by
        rcases vW hc with z | z
        ·exact fr c z
        ·rw [z];exact .inr ((sG.trans (y1.trans y2)).free hc3)⟩
      ·show ((k:Int) / 2).toNat<(k:Int).toNat
       lia
     ·have o2:¬ k % 2=1:=fun z=>hb2 (decide_eq_true (congrArg V.int tb_g%))
      rw [if_neg o2,RG.zJ el] at st
      have e9':=e9 l
      rw [RG.zJ el] at e9'
      refine ⟨_,rfl,_,_,rfl,rfl,_,rfl,_,_,rfl,rfl,⟨by decide,by decide⟩,?_,?_⟩
      ·exact ⟨bs,ms,p+1,k / 2,by rw [<- ek,<- ep];rfl,L,sG,by lia,by lia,kh,st.trans eq,e9',fr⟩
      ·show ((k:Int) / 2).toNat<(k:Int).toNat
       lia
   ·have k0:k=0:=by have:¬ (0:Int)<k:=fun z=>hc (decide_eq_true z);lia
    subst k0
    rw [RG.gP,FT] at eq
    rw [eq] at L
    exact ⟨_,rfl,q g bs G hg L sG fr⟩
  ·exact fun σ H Q Q' hq h=>jx (lg (bO 5) (jw _)) σ H Q Q' hq h
noncomputable def akj:Sp:=fun vs H Q _=>∃ (b:Addr) (l:List Int),vs=[.ref b]/\H b=some (.lst (l.map V.int))/\∀ (c:Addr) (H':Hp),H c=none->H' c=some (.lst ((RG.lft l).map V.int))->Same H H'->Q (.ref c) H'
theorem ok'1 (T:Tx K mg A):cY P w K mg base CX0 1 A.f'1 A.p8 ["things"] akj:=by
 k_dat (T.F'1.ok,Jb) "a"
 ·obtain ⟨b,l,rfl,_⟩:=h
  rfl
 ·obtain ⟨b,l,rfl,hb,q⟩:=h
  have h2:(l.length:Int)-(l.length:Int) % 2=((l.length-l.length % 2:Nat):Int):=by lia
  refine ⟨_,(aF (cC (Hg Om (pv 0) (vp (aJ xY (bF cD (by rfl) T.g8 gQ (ao (pv 0) aB)) (aJ dF (bF cD (by rfl) T.g8 gQ (ao (pv 0) aB)) aA))) Oj))),?_⟩
  refine ⟨_,rfl,_,rfl,eX (.inl (.inl hb)) ⟨_,rfl,eX (.inl (.inl hb)) ⟨_,_,rfl,rfl,(by show (0:Int)<2;decide),_,_,rfl,rfl,_,rfl,b,_,rfl,.inl (.inl hb),fun c hc=>?_⟩⟩⟩
  rw [bA,h2]
  have e:QD (l.map V.int) (some ((l.length-l.length % 2:Nat):Int)) none=(RG.lft l).map V.int:=by
   rw [RG.Ri,Mx]
   unfold QD HT.sIx
   simp only [bA]
   rw [if_neg tb_g%]
   rw [oO]
   ·congr 1
    simp
   ·rw [wY,bA]
    simp
  rw [e]
  exact q c _ hc aj (Same.new hc)
noncomputable def ahj:Sp:=fun vs H Q _=>∃ (b:Addr) (l:List Int) (tn:Int),vs=[.ref b,.int tn]/\H b=some (.lst (l.map V.int))/\∀ (c:Addr) (H':Hp),H c=none->H' c=some (.lst ((RG.pick (decide (tn % 2=1)) l).map V.int))->Same H H'->Q (.ref c) H'
theorem ok'2 (T:Tx K mg A):cY P w K mg base CX0 1 A.f'2 A.Ph ["things","turns"] ahj:=by
 k_dat (T.F'2.ok,afM) "a"
 ·obtain ⟨b,l,tn,rfl,_⟩:=h
  rfl
 ·obtain ⟨b,l,tn,rfl,hb,q⟩:=h
  refine ⟨_,(aF (cC (aaP (pv 0) (vp (aJ dF (pv 1) aA)) (vp (aJ xY (bF cD (by rfl) T.g8 gQ (ao (pv 0) aB)) (aJ dF (bF cD (by rfl) T.g8 gQ (ao (pv 0) aB)) aA))) (vp aA)))),?_⟩
  refine ⟨_,rfl,_,rfl,_,_,rfl,rfl,(by show (0:Int)<2;decide),_,rfl,?_⟩
  refine ⟨_,rfl,eX (.inl (.inl hb)) ⟨_,rfl,eX (.inl (.inl hb)) ⟨_,_,rfl,rfl,(by show (0:Int)<2;decide),_,_,rfl,rfl,_,rfl,?_⟩⟩⟩
  refine ⟨_,rfl,rfl,b,_,rfl,.inl (.inl hb),fun c hc=>?_⟩
  rw [bA,aaQ tb_g%]
  exact q c _ hc aj (Same.new hc)
noncomputable def akk (A:Ad):Sp:=fun vs H Q _=>∃ (p dx:Addr) (r T ov un tn st:Int) (mi ma rf:V),vs=[.ref p,.int st]/\H p=some (.ins A.cX dx (rg (.int r) (.int T) (.int ov) (.int un) (.int tn) mi ma rf)) /\
 Q .non (upd H p (.ins A.cX dx (rg (.int r) (.int T) (.int (if tn % 2=0 then ov+st else ov)) (.int (if tn % 2=0 then un else un+st)) (.int (tn+1)) mi ma rf)))
theorem ok'3 (T:Tx K mg A):cY P w K mg base CX0 1 A.f'3 A.rT ["self","stands_for"] (akk A):=by
 k_dat (T.F'3.ok,JC) "a"
 ·obtain ⟨p,dx,r,T,ov,un,tn,st,mi,ma,rf,rfl,_⟩:=h
  rfl
 ·obtain ⟨p,dx,r,T',ov,un,tn,st,mi,ma,rf,rfl,hp,q⟩:=h
  refine ⟨_,(aq (d9 (aR mJ (aJ dF (aC (pv 0) rfl) aA) aA (aX _)) (aF (aU (pv 0) (aJ bW (aC (pv 0) rfl) (pv 1)) rfl)) (aF (aU (pv 0) (aJ bW (aC (pv 0) rfl) (pv 1)) rfl)))
   (aF (aU (pv 0) (aJ bW (aC (pv 0) rfl) aA) rfl))),?_⟩
  refine ⟨_,rfl,rdF hp T.bT T.qJ (oG ..) ⟨_,_,rfl,rfl,(by show (0:Int)<2;decide),rfl,_,rfl,eF (fun h=>?_) (fun h=>?_)⟩⟩
  ·have h0:tn % 2=0:=V.int.inj (of_decide_eq_true h)
   rw [if_pos h0,if_pos h0] at q
   refine ⟨_,rfl,rdF hp T.bT T.wA (Aa ..) ⟨_,rfl,_,_,rfl,rfl,_,rfl,p,_,dx,_,rfl,hp,T.bT,T.wA,(by show 8<1000;decide),?_⟩⟩
   rw [DQ]
   refine ⟨_,rfl,rdF aj T.bT T.qJ (oG ..) ⟨_,_,rfl,rfl,_,rfl,p,_,dx,_,rfl,aj,T.bT,T.qJ,(by show 8<1000;decide),?_⟩⟩
   rw [sJ,cJ]
   exact q
  ·have h0:¬ tn % 2=0:=fun z=>h (decide_eq_true (congrArg V.int z))
   rw [if_neg h0,if_neg h0] at q
   refine ⟨_,rfl,rdF hp T.bT T.wB (uZ ..) ⟨_,rfl,_,_,rfl,rfl,_,rfl,p,_,dx,_,rfl,hp,T.bT,T.wB,(by show 8<1000;decide),?_⟩⟩
   rw [Ac]
   refine ⟨_,rfl,rdF aj T.bT T.qJ (oG ..) ⟨_,_,rfl,rfl,_,rfl,p,_,dx,_,rfl,aj,T.bT,T.qJ,(by show 8<1000;decide),?_⟩⟩
   rw [sJ,cJ]
   exact q
theorem LL.but {a p C:Addr} {bs:List Addr} {fs:List (Str × V)} (h:LL H a bs ls) (b:But p H H') (hp:H p=some (.ins C e fs)):LL H' a bs ls :=
 ⟨b _ _ h.o (jg h.o hp (by intro z;cases z)),h.n,fun i c l e1 e2=>b _ _ (h.e i c l e1 e2) (jg (h.e i c l e1 e2) hp (by intro z;cases z)),h.x⟩
noncomputable def placeOf (σ:St) (_:Hp):Nat:=match σ with
 | [_,_,_,some (.int n),_,_]=>(1000-n).toNat
 | _=>0
noncomputable def afP (A:Ad):Sp:=fun vs H Q _=>∃ (p dx a:Addr) (bs:List Addr) (ls:RG.Ls) (r tt ov un tn:Int) (mi ma:Option Int) (rf:V),vs=[.ref p,.ref a]/\H p=some (.ins A.cX dx (rg (.int r) (.int tt) (.int ov) (.int un) (.int tn) (oV mi) (oV ma) rf))/\LL H a bs ls/\2<=r/\r<=64/\(∀ l∈ls,l.length<=200)/\ls.length<=400/\RG.val ls<2 ^ 500 /\
 ∀ (g:Addr) (bs':List Addr) (out:RG.Ls) (tn' ov' un':Int) (H':Hp),RG.Stl r 0 tn ov un ls out tn' ov' un'->H g=none->LL H' g bs' out->H' p=some (.ins A.cX dx (rg (.int r) (.int tt) (.int ov') (.int un') (.int tn') (oV mi) (oV ma) (.ref g)))->But p H H'->out.length<=501->(∀ c∈bs',c∈bs\/H c=none)->Q .non H'
theorem ok'4 (T:Tx K mg A):cY P w K mg base CX0 2 A.f'4 A.nR ["self","lists"] (afP A):=by
 k_dat (T.F'4.ok,eY) "a"
 ·obtain ⟨p,dx,a,bs,ls,r,tt,ov,un,tn,mi,ma,rf,rfl,_⟩:=h
  rfl
 ·obtain ⟨p,dx,a,bs0,ls,r,tt,ov,un,tn,mi,ma,rf,rfl,hp,hL,r2,r64,h2,h4,h5,q⟩:=h
  refine ⟨_,(aq (aV (i:=2) eY.nd rfl (Or.inl rfl) (mU (yg rfl) (by rfl) T.IW UJ (ao (pv 1) aB)))
   (aq (aV (i:=3) eY.nd rfl (Or.inl rfl) aA)
   (aq (aV (i:=4) eY.nd rfl (Or.inl rfl) aA)
   (aq (yZ oX (aR uH (pv 3) (bF cD (by rfl) T.g8 gQ (ao (pv 2) aB)) (aX _)) (aq (aV (i:=5) eY.nd rfl (Or.inl rfl) (cI (ixG (bN hr)) (pv 2) (pv 3) (fun _ _=>rfl)))
   (aq (d9 (aR v8 (bF cD (by rfl) T.g8 gQ (ao (pv 5) aB)) (aC (pv 0) rfl) (aX _)) (aq (d9 (aR mJ (aJ bW (pv 3) aA) (bF cD (by rfl) T.g8 gQ (ao (pv 2) aB)) (aX _)) (aF (cR (Ka BK Bx BJ jE (pv 2) (ao (gG aB) aB)))) cQ)
   (aq (rD (bB (ok'1 T) tb_g% rfl T.Jw T.F'1.kp T.b'1 .nil bG (ao (pv 5) aB)) (rC (pv 2) (pv 3) (setG (bN hr))))
   (aq (rD (bF (jM rfl) (by rfl) T.oE Br (ao (aJ yd (cI (ixG (bN hr)) (pv 2) (aJ bW (pv 3) aA) (fun _ _=>rfl)) (bB (ok'2 T) tb_g% rfl T.aha T.F'2.kp T.b'2 .nil bG (ao (pv 5) (ao (aC (pv 0) rfl) aB)))) aB)) (rC (pv 2) (aJ bW (pv 3) aA) (setG (bN hr))))
   (aF (cR (dW (pv 0) T.bT T.Pr (ok'3 T) tb_g% T.b'3 .nil bG (ao (pv 4) aB))))))) cQ)
   (aq (aV (i:=3) eY.nd rfl (Or.inl rfl) (aJ bW (pv 3) aA))
   (aF (aV (i:=4) eY.nd rfl (Or.inl rfl) (aJ jc (pv 4) aA)))))))
   (aF (aU (pv 0) (pv 2) rfl)))))),?_⟩
  refine ⟨_,rfl,.inl ⟨a,_,rfl,.inl (.inl (.inl hL.o)),fun g hg=>?_⟩⟩
  have L0:=hL.copy hg
  have s0:Same H (upd H g (.lst (bs0.map V.ref))):=Same.new hg
  generalize upd H g (.lst (bs0.map V.ref))=H1 at L0 s0 ⊢
  refine za (fun σ G=>∃ (bs:List Addr) (ms:RG.Ls) (j:Nat) (tn2 ov2 un2:Int) (x:Option V),σ=[some (.ref p),some (.ref a),some (.ref g),some (.int (j:Int)),some (.int (2 ^ j)),x]/\LL G g bs ms/\G p=some (.ins A.cX dx (rg (.int r) (.int tt) (.int ov2) (.int un2) (.int tn2) (oV mi) (oV ma) rf))/\But p H G/\RG.Run r tn ov un ls j tn2 ov2 un2 ms/\ms.length<=501/\∀ c∈bs,c∈bs0\/H c=none) placeOf
   ⟨bs0,ls,0,tn,ov,un,none,rfl,L0,s0 _ _ hp,s0.but p,RG.Run.start h2,by lia,fun c hc=>.inl hc⟩ ?_ ?_
  ·rintro σ G ⟨bs,ms,j,tn2,ov2,un2,x,rfl,L,gp,bt,R,ln,fr⟩
   have jl:=R.le
   have ep:((j:Int)+1)=((j+1:Nat):Int):=by lia
   refine ⟨_,rfl,_,rfl,eX (.inl (.inl L.o)) ⟨_,_,rfl,rfl,_,rfl,eF (fun hc=>?_) (fun hc=>?_)⟩⟩
   ·have hj:j<ms.length:=by
     have:=of_decide_eq_true hc
     rw [bA,L.n] at this
     lia
    obtain ⟨b,l,eb,el,hb⟩:=L.at hj
    have ll4:=R.b1 l (List.mem_of_getElem? el)
    have nbg:b≠g:=fun z=>L.x (by rw [<- z];exact List.mem_of_getElem? eb)
    refine ⟨_,rfl,_,rfl,dO (.inl (.inl L.o)) (v:=.ref b) (LL.ix eb) ?_⟩
    refine ⟨_,rfl,eX (.inl (.inl hb)) ⟨_,rfl,rdF gp T.bT T.zN (vK ..) ⟨_,_,rfl,rfl,_,rfl,eF (fun hg2=>?_) (fun hg2=>?_)⟩⟩⟩
    ·have hgt:r<(l.length:Int):=by have:=of_decide_eq_true hg2;rw [bA] at this;exact this
     have hl2:2<=l.length:=by lia
     have hbig:=R.big el (fun z=>by rw [z] at hl2;exact absurd hl2 (by decide))
     have j5:j<500:=by
      rcases jW j 500 with z | z
      ·exact z
      ·have:=xJ (show 0<2 by decide) z
       lia
     refine ⟨_,rfl,_,_,rfl,rfl,_,rfl,eX (.inl (.inl L.o)) ⟨rfl,_,rfl,eF (fun he=>?_) (fun he=>?_)⟩⟩
     ·have he:j+1=ms.length:=by
       have:=V.int.inj (of_decide_eq_true he)
       rw [bA,L.n] at this
       lia
      refine ⟨_,rfl,.inl ⟨rfl,_,.inl (.inl L.o)⟩,by show 0<=sizeLine;decide,fun c hc0=>?_⟩
      have s1:Same G (upd G c (.lst [])):=Same.new hc0
      have f1:(upd G c (.lst [])) c=some (.lst (([]:List Int).map V.int)):=aj
      generalize upd G c (.lst [])=G1 at s1 f1 ⊢
      have nc:c≠g:=aK (ak L.o hc0)
      refine ⟨g,_,_,rfl,rfl,s1 _ _ L.o,cL (by rw [bA,L.n];lia),?_⟩
      have LX:=(L.same s1).app f1 nc
      have gx:∀ x o,G x=some o->x≠g->(upd G1 g (.lst (bs.map V.ref++[.ref c]))) x=some o:=fun x o e n=>by rw [au n];exact s1 _ _ e
      have pX:=gx _ _ gp (jg gp L.o (by intro z;cases z))
      have bX:=gx _ _ hb nbg
      have btX:But p H (upd G1 g (.lst (bs.map V.ref++[.ref c]))):=fun b o e n=>gx _ _ (bt b o e n) (ak e hg)
      generalize upd G1 g (.lst (bs.map V.ref++[.ref c]))=GX at LX pX bX btX ⊢
      obtain ⟨nx,MR⟩:∃ nx:List Int,RG.More j ms (ms++[[]]) nx:=⟨[],.inr ⟨he,rfl,rfl⟩⟩
      have hb:=bX
      have SG:Same GX GX:=Same.refl _
      have fr2:∀ x∈bs++[c],x∈bs0\/H x=none:=fun x hx=>by
       rcases dg.mp hx with z | z
       ·exact fr x z
       ·rw [d8.mp z];exact .inr (cW bt hc0 fun y=>by rw [y,gp] at hc0;cases hc0)
      have LN:(ms++[[]]).length<=501:=by rw [dh];show ms.length+1<=501;lia
      obtain ⟨h1,h2,_,_,_⟩:=MR.at el
      obtain ⟨hp1,_⟩:=fQ.mp h1
      obtain ⟨hp2,_⟩:=fQ.mp h2
      have hb':GX b=some (.lst (l.map V.int)):=SG _ _ hb
      refine ⟨_,rfl,b,l,rfl,hb',fun c1 G1 nc1 f1 s1=>?_⟩
      have L1:=LX.same s1
      have n1:c1≠g:=aK (ak LX.o nc1)
      refine ⟨_,rfl,_,rfl,.inl ⟨g,_,_,j,rfl,rfl,L1.o,mQ (by rw [bA,LX.n];exact hp1),?_⟩⟩
      have L2:=L1.set (i:=j) f1 n1
      have pg:p≠g:=jg (s1 _ _ pX) L1.o (by intro z;cases z)
      have u2:∀ x o,G1 x=some o->x≠g->(upd G1 g (.lst (((bs++[c]).map V.ref).set j (.ref c1)))) x=some o:=fun x o e n=>by rw [au n];exact e
      have po2:=u2 _ _ (s1 _ _ pX) pg
      have hb2:=u2 _ _ (s1 _ _ hb') nbg
      have s02:But p H (upd G1 g (.lst (((bs++[c]).map V.ref).set j (.ref c1)))):=fun x o e n=>u2 _ _ (s1 _ _ (btX x o e n)) (ak e hg)
      generalize upd G1 g (.lst (((bs++[c]).map V.ref).set j (.ref c1)))=G2 at L2 po2 hb2 s02 ⊢
      have e2:((ms++[[]]).set j (RG.lft l))[j+1]? = some nx:=by rw [Bg tb_g%];exact h2
      obtain ⟨b3,l3,eb3,el3,hb3⟩:=L2.at (i:=j+1) (by rw [jU];exact hp2)
      obtain rfl:l3=nx:=by rw [e2] at el3;exact (dB el3).symm
      have nx2:l3.length<=200:=by
       rcases MR with ⟨_,e⟩ | ⟨_,_,e⟩
       ·exact R.b2 l3 (by rw [RG.fC e];exact cZ)
       ·rw [e];exact cB _
      refine ⟨_,rfl,_,rfl,_,_,rfl,rfl,dO (.inl (.inl L2.o)) (v:=.ref b3) (by rw [ep];exact LL.ix eb3) ?_⟩
      refine ⟨_,rfl,_,rfl,rdF po2 T.bT T.qJ (oG ..) ⟨b,l,tn2,rfl,hb2,fun c4 G4 nc4 f4 s4=>?_⟩⟩
      have lp:=RG.lM (decide (tn2 % 2=1)) l
      refine ⟨b3,c4,_,_,rfl,rfl,s4 _ _ hb3,f4,mH (cL (by rw [bA,bA];lia)),fun c5 nc5=>?_⟩
      rw [<- dN]
      have s5:Same G4 (upd G4 c5 (.lst ((l3++RG.pick (decide (tn2 % 2=1)) l).map V.int))):=Same.new nc5
      have f5:(upd G4 c5 (.lst ((l3++RG.pick (decide (tn2 % 2=1)) l).map V.int))) c5=some (.lst ((l3++RG.pick (decide (tn2 % 2=1)) l).map V.int)):=aj
      generalize upd G4 c5 (.lst ((l3++RG.pick (decide (tn2 % 2=1)) l).map V.int))=G5 at s5 f5 ⊢
      refine .inr ⟨c5,_,rfl,.inl (.inl f5),by rw [dh];lia,fun c6 ns nc6 pm so=>?_⟩
      obtain rfl:=RG.nM pm so
      have s6:Same G5 (upd G5 c6 (.lst ((RG.srt (l3++RG.pick (decide (tn2 % 2=1)) l)).map V.int))):=Same.new nc6
      have f6:(upd G5 c6 (.lst ((RG.srt (l3++RG.pick (decide (tn2 % 2=1)) l)).map V.int))) c6=some (.lst ((RG.srt (l3++RG.pick (decide (tn2 % 2=1)) l)).map V.int)):=aj
      generalize upd G5 c6 (.lst ((RG.srt (l3++RG.pick (decide (tn2 % 2=1)) l)).map V.int))=G6 at s6 f6 ⊢
      have s26:=s4.trans (s5.trans s6)
      have L6:=L2.same s26
      have n6:c6≠g:=aK (ak ((s4.trans s5) _ _ L2.o) nc6)
      refine ⟨_,rfl,_,rfl,_,_,rfl,rfl,.inl ⟨g,_,_,j+1,rfl,rfl,L6.o,by rw [ep];exact mQ (by rw [bA,jU,LX.n];exact hp2),?_⟩⟩
      have L7:=L6.set (i:=j+1) f6 n6
      have po7:(upd G6 g (.lst ((((bs++[c]).set j c1).map V.ref).set (j+1) (.ref c6)))) p=_:=(au pg).trans (s26 _ _ po2)
      have s07:But p H (upd G6 g (.lst ((((bs++[c]).set j c1).map V.ref).set (j+1) (.ref c6)))):=fun x o e n=>by rw [au (ak e hg)];exact s26 _ _ (s02 x o e n)
      generalize upd G6 g (.lst ((((bs++[c]).set j c1).map V.ref).set (j+1) (.ref c6)))=G7 at L7 po7 s07 ⊢
      refine ⟨_,rfl,p,dx,_,rfl,po7,rgN tb_g%,_,rfl,p,dx,r,tt,ov2,un2,tn2,2 ^ j,oV mi,oV ma,rf,rfl,po7,?_⟩
      have R8:=R.turn MR el hgt
      have L8:LL (upd G7 p (.ins A.cX dx (rg (.int r) (.int tt) (.int (if tn2 % 2=0 then ov2+2 ^ j else ov2)) (.int (if tn2 % 2=0 then un2 else un2+2 ^ j)) (.int (tn2+1)) (oV mi) (oV ma) rf))) g _ _:=L7.but (But.upd) po7
      have po8:(upd G7 p (.ins A.cX dx (rg (.int r) (.int tt) (.int (if tn2 % 2=0 then ov2+2 ^ j else ov2)) (.int (if tn2 % 2=0 then un2 else un2+2 ^ j)) (.int (tn2+1)) (oV mi) (oV ma) rf))) p=_:=aj
      have s08:But p H (upd G7 p (.ins A.cX dx (rg (.int r) (.int tt) (.int (if tn2 % 2=0 then ov2+2 ^ j else ov2)) (.int (if tn2 % 2=0 then un2 else un2+2 ^ j)) (.int (tn2+1)) (oV mi) (oV ma) rf))):=s07.trans But.upd
      generalize upd G7 p (.ins A.cX dx (rg (.int r) (.int tt) (.int (if tn2 % 2=0 then ov2+2 ^ j else ov2)) (.int (if tn2 % 2=0 then un2 else un2+2 ^ j)) (.int (tn2+1)) (oV mi) (oV ma) rf))=G8 at L8 po8 s08 ⊢
      refine ⟨_,rfl,_,_,rfl,rfl,_,rfl,_,_,rfl,rfl,fB (by decide) (by decide),?_,?_⟩
      ·exact ⟨_,_,j+1,_,_,_,_,by rw [<- ep,pY];rfl,L8,po8,s08,R8,by rw [jU,jU];exact LN,fun c hc=>by
        rcases vW hc with z | z
        ·rcases vW z with z | z
         ·exact fr2 c z
         ·rw [z];exact .inr (cW btX nc1 fun y=>by rw [y,pX] at nc1;cases nc1)
        ·rw [z];exact .inr (cW (s02.trans ((s4.trans s5).but p)) nc6 fun y=>by rw [y,(s4.trans s5) _ _ po2] at nc6;cases nc6)⟩
      ·show (1000-((j:Int)+1)).toNat<(1000-(j:Int)).toNat
       lia
     ·have he:¬ j+1=ms.length:=fun z=>he (decide_eq_true (congrArg V.int (by rw [bA,L.n];lia)))
      obtain ⟨b',nx,eb',el',_⟩:=L.at (i:=j+1) tb_g%
      have MR:RG.More j ms ms nx:=.inl ⟨rfl,el'⟩
      have SG:Same G G:=Same.refl _
      have LN:=ln
      obtain ⟨h1,h2,_,_,_⟩:=MR.at el
      obtain ⟨hp1,_⟩:=fQ.mp h1
      obtain ⟨hp2,_⟩:=fQ.mp h2
      have hb':G b=some (.lst (l.map V.int)):=SG _ _ hb
      refine ⟨_,rfl,b,l,rfl,hb',fun c1 G1 nc1 f1 s1=>?_⟩
      have L1:=L.same s1
      have n1:c1≠g:=aK (ak L.o nc1)
      refine ⟨_,rfl,_,rfl,.inl ⟨g,_,_,j,rfl,rfl,L1.o,mQ (by rw [bA,L.n];exact hp1),?_⟩⟩
      have L2:=L1.set (i:=j) f1 n1
      have pg:p≠g:=jg (s1 _ _ gp) L1.o (by intro z;cases z)
      have u2:∀ x o,G1 x=some o->x≠g->(upd G1 g (.lst ((bs.map V.ref).set j (.ref c1)))) x=some o:=fun x o e n=>by rw [au n];exact e
      have po2:=u2 _ _ (s1 _ _ gp) pg
      have hb2:=u2 _ _ (s1 _ _ hb') nbg
      have s02:But p H (upd G1 g (.lst ((bs.map V.ref).set j (.ref c1)))):=fun x o e n=>u2 _ _ (s1 _ _ (bt x o e n)) (ak e hg)
      generalize upd G1 g (.lst ((bs.map V.ref).set j (.ref c1)))=G2 at L2 po2 hb2 s02 ⊢
      have e2:(ms.set j (RG.lft l))[j+1]? = some nx:=by rw [Bg tb_g%];exact h2
      obtain ⟨b3,l3,eb3,el3,hb3⟩:=L2.at (i:=j+1) (by rw [jU];exact hp2)
      obtain rfl:l3=nx:=by rw [e2] at el3;exact (dB el3).symm
      have nx2:l3.length<=200:=by
       rcases MR with ⟨_,e⟩ | ⟨_,_,e⟩
       ·exact R.b2 l3 (by rw [RG.fC e];exact cZ)
       ·rw [e];exact cB _
      refine ⟨_,rfl,_,rfl,_,_,rfl,rfl,dO (.inl (.inl L2.o)) (v:=.ref b3) (by rw [ep];exact LL.ix eb3) ?_⟩
      refine ⟨_,rfl,_,rfl,rdF po2 T.bT T.qJ (oG ..) ⟨b,l,tn2,rfl,hb2,fun c4 G4 nc4 f4 s4=>?_⟩⟩
      have lp:=RG.lM (decide (tn2 % 2=1)) l
      refine ⟨b3,c4,_,_,rfl,rfl,s4 _ _ hb3,f4,mH (cL (by rw [bA,bA];lia)),fun c5 nc5=>?_⟩
      rw [<- dN]
      have s5:Same G4 (upd G4 c5 (.lst ((l3++RG.pick (decide (tn2 % 2=1)) l).map V.int))):=Same.new nc5
      have f5:(upd G4 c5 (.lst ((l3++RG.pick (decide (tn2 % 2=1)) l).map V.int))) c5=some (.lst ((l3++RG.pick (decide (tn2 % 2=1)) l).map V.int)):=aj
      generalize upd G4 c5 (.lst ((l3++RG.pick (decide (tn2 % 2=1)) l).map V.int))=G5 at s5 f5 ⊢
      refine .inr ⟨c5,_,rfl,.inl (.inl f5),by rw [dh];lia,fun c6 ns nc6 pm so=>?_⟩
      obtain rfl:=RG.nM pm so
      have s6:Same G5 (upd G5 c6 (.lst ((RG.srt (l3++RG.pick (decide (tn2 % 2=1)) l)).map V.int))):=Same.new nc6
      have f6:(upd G5 c6 (.lst ((RG.srt (l3++RG.pick (decide (tn2 % 2=1)) l)).map V.int))) c6=some (.lst ((RG.srt (l3++RG.pick (decide (tn2 % 2=1)) l)).map V.int)):=aj
      generalize upd G5 c6 (.lst ((RG.srt (l3++RG.pick (decide (tn2 % 2=1)) l)).map V.int))=G6 at s6 f6 ⊢
      have s26:=s4.trans (s5.trans s6)
      have L6:=L2.same s26
      have n6:c6≠g:=aK (ak ((s4.trans s5) _ _ L2.o) nc6)
      refine ⟨_,rfl,_,rfl,_,_,rfl,rfl,.inl ⟨g,_,_,j+1,rfl,rfl,L6.o,by rw [ep];exact mQ (by rw [bA,jU,L.n];exact hp2),?_⟩⟩
      have L7:=L6.set (i:=j+1) f6 n6
      have po7:(upd G6 g (.lst (((bs.set j c1).map V.ref).set (j+1) (.ref c6)))) p=_:=(au pg).trans (s26 _ _ po2)
      have s07:But p H (upd G6 g (.lst (((bs.set j c1).map V.ref).set (j+1) (.ref c6)))):=fun x o e n=>by rw [au (ak e hg)];exact s26 _ _ (s02 x o e n)
      generalize upd G6 g (.lst (((bs.set j c1).map V.ref).set (j+1) (.ref c6)))=G7 at L7 po7 s07 ⊢
      refine ⟨_,rfl,p,dx,_,rfl,po7,rgN tb_g%,_,rfl,p,dx,r,tt,ov2,un2,tn2,2 ^ j,oV mi,oV ma,rf,rfl,po7,?_⟩
      have R8:=R.turn MR el hgt
      have L8:LL (upd G7 p (.ins A.cX dx (rg (.int r) (.int tt) (.int (if tn2 % 2=0 then ov2+2 ^ j else ov2)) (.int (if tn2 % 2=0 then un2 else un2+2 ^ j)) (.int (tn2+1)) (oV mi) (oV ma) rf))) g _ _:=L7.but (But.upd) po7
      have po8:(upd G7 p (.ins A.cX dx (rg (.int r) (.int tt) (.int (if tn2 % 2=0 then ov2+2 ^ j else ov2)) (.int (if tn2 % 2=0 then un2 else un2+2 ^ j)) (.int (tn2+1)) (oV mi) (oV ma) rf))) p=_:=aj
      have s08:But p H (upd G7 p (.ins A.cX dx (rg (.int r) (.int tt) (.int (if tn2 % 2=0 then ov2+2 ^ j else ov2)) (.int (if tn2 % 2=0 then un2 else un2+2 ^ j)) (.int (tn2+1)) (oV mi) (oV ma) rf))):=s07.trans But.upd
      generalize upd G7 p (.ins A.cX dx (rg (.int r) (.int tt) (.int (if tn2 % 2=0 then ov2+2 ^ j else ov2)) (.int (if tn2 % 2=0 then un2 else un2+2 ^ j)) (.int (tn2+1)) (oV mi) (oV ma) rf))=G8 at L8 po8 s08 ⊢
      refine ⟨_,rfl,_,_,rfl,rfl,_,rfl,_,_,rfl,rfl,fB (by decide) (by decide),?_,?_⟩
      ·exact ⟨_,_,j+1,_,_,_,_,by rw [<- ep,pY];rfl,L8,po8,s08,R8,by rw [jU,jU];exact LN,fun c hc=>by
        rcases vW hc with z | z
        ·rcases vW z with z | z
         ·exact fr c z
         ·rw [z];exact .inr (cW bt nc1 fun y=>by rw [y,gp] at nc1;cases nc1)
        ·rw [z];exact .inr (cW (s02.trans ((s4.trans s5).but p)) nc6 fun y=>by rw [y,(s4.trans s5) _ _ po2] at nc6;cases nc6)⟩
      ·show (1000-((j:Int)+1)).toNat<(1000-(j:Int)).toNat
       lia
    ·have hle:(l.length:Int)<=r:=by
      have:¬ r<((l.map V.int).length:Int):=fun z=>hg2 (decide_eq_true z)
      rw [bA] at this
      lia
     refine ⟨_,rfl,_,_,rfl,rfl,_,rfl,_,_,rfl,rfl,fB (by decide) (by decide),?_,?_⟩
     ·exact ⟨bs,ms,j+1,_,_,_,_,by rw [<- ep,pY];rfl,L,gp,bt,R.keep el hle,ln,fr⟩
     ·show (1000-((j:Int)+1)).toNat<(1000-(j:Int)).toNat
      lia
   ·have hj:ms.length<=j:=by
     have:¬ (j:Int)<((bs.map V.ref).length:Int):=fun z=>hc (decide_eq_true z)
     rw [bA,L.n] at this
     lia
    refine ⟨_,rfl,_,rfl,p,_,dx,_,rfl,gp,T.bT,T.wC,(by show 8<1000;decide),?_⟩
    rw [PL]
    exact q g bs ms tn2 ov2 un2 _ (R.done hj) hg (L.but But.upd gp) aj (bt.trans But.upd) ln fr
  ·exact fun σ H Q Q' hq h=>jx (lg (bO 3) (RJ (gq (bO 2) qI))) σ H Q Q' hq h
noncomputable def lo2:Option Int->Option Int->Option Int
 | none,b=>b
 | a,none=>a
 | some a,some b=>some (min a b)
noncomputable def hi2:Option Int->Option Int->Option Int
 | none,b=>b
 | a,none=>a
 | some a,some b=>some (max a b)
noncomputable def KR (a b:Option Int):List Int:=a.toList++b.toList
theorem ahk {a b:Option Int} {v:V} (h:Best true (KR a b) v):v=oV (lo2 a b):=by
 rcases h with ⟨e,rfl⟩ | ⟨m,rfl,hm,hb⟩
 ·cases a <;> cases b <;> first | rfl | cases e
 ·cases a with
  | none=>cases b with
   | none=>cases hm
   | some b=>rw [d8.mp hm];rfl
  | some a=>cases b with
   | none=>rw [d8.mp hm];rfl
   | some b =>
    have h1:=hb a cZ
    have h2:=hb b (gk _ cZ)
    rw [if_pos rfl] at h1 h2
    have:m=min a b:=by
     rcases cU.mp hm with z | z
     ·lia
     ·have:=d8.mp z;lia
    rw [this];rfl
theorem ahl {a b:Option Int} {v:V} (h:Best false (KR a b) v):v=oV (hi2 a b):=by
 rcases h with ⟨e,rfl⟩ | ⟨m,rfl,hm,hb⟩
 ·cases a <;> cases b <;> first | rfl | cases e
 ·cases a with
  | none=>cases b with
   | none=>cases hm
   | some b=>rw [d8.mp hm];rfl
  | some a=>cases b with
   | none=>rw [d8.mp hm];rfl
   | some b =>
    have h1:=hb a cZ
    have h2:=hb b (gk _ cZ)
    rw [if_neg (by decide)] at h1 h2
    have:m=max a b:=by
     rcases cU.mp hm with z | z
     ·lia
     ·have:=d8.mp z;lia
    rw [this];rfl
noncomputable def known (a b:Option Int) (i:Nat):List V:=(([a,b].take i).flatMap Option.toList).map V.int
noncomputable def RX (f:Option Int->Option Int->Option Int):Sp:=fun vs H Q _=>∃ (a b:Option Int),vs=[oV a,oV b]/\∀ H',Same H H'->Q (oV (f a b)) H'
theorem ok'5 (T:Tx K mg A):cY P w K mg base CX0 1 A.f'5 A.Ig ["one","other"] (RX lo2):=by
 k_dat (T.F'5.ok,KJ) "a"
 ·obtain ⟨a,b,rfl,_⟩:=h
  rfl
 ·obtain ⟨a,b,rfl,q⟩:=h
  refine ⟨_,(aq (kj (i:=2) (cl:=[]) (N:=["thing"]) (caps:=[]) (tt:=_) (te:=_) KJ.nd rfl (Or.inl rfl) rfl (by with_unfolding_all rfl) tb_g% rfl tb_g% trivial (lX (by with_unfolding_all rfl)) tb_g% rfl rfl rfl (dZ.at (k:=1) (show dZ _ _ _ _ 1 [] from trivial)) (aec (xZ (ao (pv 0) (ao (pv 1) aB)))) (fun _ _ _ _=>(zx (aR Oh (pv 0) xX (aX _)))) (fun _ _ _ _=>(pv 0)))
   (aF (cC (agZ T.n_min (pv 2) rfl)))),?_⟩
  refine ⟨_,rfl,_,rfl,by show 2<=sizeLine;decide,fun t ht=>?_⟩
  have s1:Same H (upd H t (.tup [oV a,oV b])):=Same.new ht
  have f1:(upd H t (.tup [oV a,oV b])) t=some (.tup [oV a,oV b]):=aj
  generalize upd H t (.tup [oV a,oV b])=H1 at s1 f1 ⊢
  refine ⟨t,rfl,⟨_,.inl (.inl f1)⟩,fun D hD=>?_⟩
  refine Ia (K:=K) (a:=t) (xs:=[oV a,oV b]) (fun i ys G=>ys=known a b i/\G=upd H1 D (.lst ys)) ⟨rfl,rfl⟩ ?_ ?_ ?_ ?_ ?_
  ·rintro i ys G hi ⟨rfl,rfl⟩
   refine ⟨.inl (.inl ((Same.new hD) _ _ f1)),aj,cL ?_⟩
   unfold known
   cases a <;> cases b <;> match i,hi with
    | 0,_=>simp
    | 1,_=>simp
    | 2,_=>simp
  ·rintro i ys G x hx ⟨rfl,rfl⟩
   match i,hx with
   | 0,hx =>
    obtain rfl:oV a=x:=dB hx
    cases a with
    | none=>exact ⟨_,rfl,rfl,_,rfl,eF (fun h=>absurd h (by decide)) (fun _=>⟨aj,rfl,rfl⟩)⟩
    | some z=>exact ⟨_,rfl,rfl,_,rfl,eF (fun _=>⟨_,rfl,aj,rfl,by rw [cJ]⟩) (fun h=>absurd (show (!decide (V.int z=V.non))=true by rw [decide_eq_false (by intro y;cases y)];rfl) h)⟩
   | 1,hx =>
    obtain rfl:oV b=x:=dB hx
    cases b with
    | none=>exact ⟨_,rfl,rfl,_,rfl,eF (fun h=>absurd h (by decide)) (fun _=>⟨aj,by cases a <;> rfl,by cases a <;> rfl⟩)⟩
    | some z=>exact ⟨_,rfl,rfl,_,rfl,eF (fun _=>⟨_,rfl,aj,by cases a <;> rfl,by rw [cJ]⟩) (fun h=>absurd (show (!decide (V.int z=V.non))=true by rw [decide_eq_false (by intro y;cases y)];rfl) h)⟩
  ·rintro ys G ⟨rfl,rfl⟩
   have ek:known a b [oV a,oV b].length=(KR a b).map V.int:=by cases a <;> cases b <;> rfl
   rw [ek]
   refine ⟨_,rfl,D,KR a b,rfl,.inl (.inl aj),fun v hv=>?_⟩
   rw [ahk hv]
   exact q _ (s1.trans (Same.new hD))
  ·exact fun σ H R R' hr h=>jx (zL (r:=fun x y H Q=>y = .non/\Q (.bl (!decide (x = .non))) H) (fun x y H Q Q' hq h=>⟨h.1,hq _ _ h.2⟩) (bO 0) (jw _)) σ H R R' hr h
  ·exact bO 0
theorem ok'6 (T:Tx K mg A):cY P w K mg base CX0 1 A.f'6 A.Cv ["one","other"] (RX hi2):=by
 k_dat (T.F'6.ok,Jc) "a"
 ·obtain ⟨a,b,rfl,_⟩:=h
  rfl
 ·obtain ⟨a,b,rfl,q⟩:=h
  refine ⟨_,(aq (kj (i:=2) (cl:=[]) (N:=["thing"]) (caps:=[]) (tt:=_) (te:=_) Jc.nd rfl (Or.inl rfl) rfl (by with_unfolding_all rfl) tb_g% rfl tb_g% trivial (lX (by with_unfolding_all rfl)) tb_g% rfl rfl rfl (dZ.at (k:=1) (show dZ _ _ _ _ 1 [] from trivial)) (aec (xZ (ao (pv 0) (ao (pv 1) aB)))) (fun _ _ _ _=>(zx (aR Oh (pv 0) xX (aX _)))) (fun _ _ _ _=>(pv 0)))
   (aF (cC (ag0 T.ZM (pv 2) rfl)))),?_⟩
  refine ⟨_,rfl,_,rfl,by show 2<=sizeLine;decide,fun t ht=>?_⟩
  have s1:Same H (upd H t (.tup [oV a,oV b])):=Same.new ht
  have f1:(upd H t (.tup [oV a,oV b])) t=some (.tup [oV a,oV b]):=aj
  generalize upd H t (.tup [oV a,oV b])=H1 at s1 f1 ⊢
  refine ⟨t,rfl,⟨_,.inl (.inl f1)⟩,fun D hD=>?_⟩
  refine Ia (K:=K) (a:=t) (xs:=[oV a,oV b]) (fun i ys G=>ys=known a b i/\G=upd H1 D (.lst ys)) ⟨rfl,rfl⟩ ?_ ?_ ?_ ?_ ?_
  ·rintro i ys G hi ⟨rfl,rfl⟩
   refine ⟨.inl (.inl ((Same.new hD) _ _ f1)),aj,cL ?_⟩
   unfold known
   cases a <;> cases b <;> match i,hi with
    | 0,_=>simp
    | 1,_=>simp
    | 2,_=>simp
  ·rintro i ys G x hx ⟨rfl,rfl⟩
   match i,hx with
   | 0,hx =>
    obtain rfl:oV a=x:=dB hx
    cases a with
    | none=>exact ⟨_,rfl,rfl,_,rfl,eF (fun h=>absurd h (by decide)) (fun _=>⟨aj,rfl,rfl⟩)⟩
    | some z=>exact ⟨_,rfl,rfl,_,rfl,eF (fun _=>⟨_,rfl,aj,rfl,by rw [cJ]⟩) (fun h=>absurd (show (!decide (V.int z=V.non))=true by rw [decide_eq_false (by intro y;cases y)];rfl) h)⟩
   | 1,hx =>
    obtain rfl:oV b=x:=dB hx
    cases b with
    | none=>exact ⟨_,rfl,rfl,_,rfl,eF (fun h=>absurd h (by decide)) (fun _=>⟨aj,by cases a <;> rfl,by cases a <;> rfl⟩)⟩
    | some z=>exact ⟨_,rfl,rfl,_,rfl,eF (fun _=>⟨_,rfl,aj,by cases a <;> rfl,by rw [cJ]⟩) (fun h=>absurd (show (!decide (V.int z=V.non))=true by rw [decide_eq_false (by intro y;cases y)];rfl) h)⟩
  ·rintro ys G ⟨rfl,rfl⟩
   have ek:known a b [oV a,oV b].length=(KR a b).map V.int:=by cases a <;> cases b <;> rfl
   rw [ek]
   refine ⟨_,rfl,D,KR a b,rfl,.inl (.inl aj),fun v hv=>?_⟩
   rw [ahl hv]
   exact q _ (s1.trans (Same.new hD))
  ·exact fun σ H R R' hr h=>jx (zL (r:=fun x y H Q=>y = .non/\Q (.bl (!decide (x = .non))) H) (fun x y H Q Q' hq h=>⟨h.1,hq _ _ h.2⟩) (bO 0) (jw _)) σ H R R' hr h
  ·exact bO 0
noncomputable def ahm (A:Ad):Sp:=fun vs H Q _=>∃ (p dx:Addr) (r:Int),vs=[.ref p,.int r]/\H p=some (.ins A.cX dx []) /\
 ∀ (d:Addr) (H':Hp),H d=none->H' p=some (.ins A.cX dx (rg (.int r) (.int 0) (.int 0) (.int 0) (.int 0) .non .non (.ref d)))->H' d=some (.lst [])->But p H H'->Q .non H'
theorem ok'7 (T:Tx K mg A):cY P w K mg base CX0 1 A.f'7 A.rW ["self","room"] (ahm A):=by
 k_dat (T.F'7.ok,JD) "a"
 ·obtain ⟨p,dx,r,rfl,_⟩:=h
  rfl
 ·obtain ⟨p,dx,r,rfl,hp,q⟩:=h
  refine ⟨_,(aq (aU (pv 0) (pv 1) rfl)
   (aq (aU (pv 0) aA rfl)
   (aq (aU (pv 0) aA rfl)
   (aq (aU (pv 0) aA rfl)
   (aq (aU (pv 0) aA rfl)
   (aq (aU (pv 0) xX rfl)
   (aq (aU (pv 0) xX rfl)
   (aF (aU (pv 0) (gG aB) rfl))))))))),?_⟩
  refine ⟨_,rfl,_,rfl,p,_,dx,[],rfl,hp,T.bT,T.zN,(by show 0<1000;decide),?_⟩
  k_dat (p,dx,aj,T.bT,T.zO,1) "e"
  k_dat (p,dx,aj,T.bT,T.wA,2) "e"
  k_dat (p,dx,aj,T.bT,T.wB,3) "e"
  k_dat (p,dx,aj,T.bT,T.qJ,4) "e"
  k_dat (p,dx,aj,T.bT,T.Dp,5) "e"
  k_dat (p,dx,aj,T.bT,T.Dq,6) "e"
  rw [cJ,cJ,cJ,cJ,cJ,cJ]
  refine ⟨(by show 0<=sizeLine;decide),fun d hd=>?_⟩
  have npd:p≠d:=fun z=>by rw [<- z,aj] at hd;cases hd
  rw [au (aK npd)] at hd
  refine ⟨_,rfl,p,_,dx,_,rfl,(by rw [au npd];exact aj),T.bT,T.wC,(by show 7<1000;decide),?_⟩
  refine q d _ hd (GC aj (by rw [akf])) (by rw [au (aK npd),aj]) fun b o e hb=>?_
  rw [au hb,au (ak e hd),au hb]
  exact e
/-- a Rungs -/
structure Rn (A:Ad) (H:Hp) (p dx a:Addr) (bs:List Addr) (r tt ov un tn:Int) (mi ma:Option Int) (ls:RG.Ls):Prop where
 o:H p=some (.ins A.cX dx (rg (.int r) (.int tt) (.int ov) (.int un) (.int tn) (oV mi) (oV ma) (.ref a)))
 l:LL H a bs ls
section
variable {p a:Addr} {bs:List Addr} {tt ov un tn:Int} {mi ma:Option Int}
theorem Rn.same (h:Rn A H p dx a bs r tt ov un tn mi ma ls) (s:Same H H'):Rn A H' p dx a bs r tt ov un tn mi ma ls:=⟨s _ _ h.o,h.l.same s⟩
theorem Rn.but {q C:Addr} {fs:List (Str × V)} (h:Rn A H p dx a bs r tt ov un tn mi ma ls) (b:But q H H') (hq:H q=some (.ins C e fs)) (n:p≠q):Rn A H' p dx a bs r tt ov un tn mi ma ls:=⟨b _ _ h.o n,h.l.but b hq⟩
theorem Rn.new {d:Addr} (h1:H p=some (.ins A.cX dx (rg (.int r) (.int 0) (.int 0) (.int 0) (.int 0) .non .non (.ref d)))) (h2:H d=some (.lst [])):Rn A H p dx d [] r 0 0 0 0 none none [] :=
 ⟨h1,⟨h2,rfl,fun i b l e=>by (cases i <;> cases e),fun z=>nomatch z⟩⟩
end
noncomputable def akl (A:Ad):Sp:=fun vs H Q _=>∃ (p dx a:Addr) (bs:List Addr) (r tt ov un tn t w:Int) (mi ma:Option Int) (ls:RG.Ls),vs=[.ref p,.int t,.int w]/\Rn A H p dx a bs r tt ov un tn mi ma ls/\2<=r/\r<=64/\0<=w/\w<2 ^ 64/\ls.length<=400/\(∀ l∈ls,l.length<=199)/\RG.val ls<2 ^ 400 /\
 ∀ (a':Addr) (bs':List Addr) (out:RG.Ls) (tn' ov' un':Int) (H':Hp),RG.Stl r 0 tn ov un (RG.gH t ls w.toNat) out tn' ov' un'->Rn A H' p dx a' bs' r (tt+w) ov' un' tn' (lo2 mi (some t)) (hi2 ma (some t)) out->But p H H'->H a'=none->(∀ c∈bs',c∈bs\/H c=none)->Q .non H'
theorem ok'8 (T:Tx K mg A):cY P w K mg base CX0 5 A.f'8 A.uN ["self","thing","weight"] (akl A):=by
 k_dat (T.F'8.ok,PJ) "a"
 ·obtain ⟨p,dx,a,bs,r,tt,ov,un,tn,t,w,mi,ma,ls,rfl,_⟩:=h
  rfl
 ·obtain ⟨p,dx,a,bs,r,tt,ov,un,tn,t,w,mi,ma,ls,rfl,hR,r2,r64,w0,w64,h3,h1,hv,q⟩:=h
  refine ⟨_,(aq (aU (pv 0) (aJ bW (aC (pv 0) rfl) (pv 2)) rfl)
   (aq (aU (pv 0) (bB (ok'5 T) tb_g% rfl T.RT T.F'5.kp T.b'5 .nil bG (ao (aC (pv 0) rfl) (ao (pv 1) aB))) rfl)
   (aq (aU (pv 0) (bB (ok'6 T) tb_g% rfl T.KD T.F'6.kp T.b'6 .nil bG (ao (aC (pv 0) rfl) (ao (pv 1) aB))) rfl)
   (aF (cR (dW (pv 0) T.bT T.uQ (ok'4 T) tb_g% T.b'4 .nil bG (ao (bB (ok'0 T) tb_g% rfl T.Pq T.F'0.kp T.b'0 .nil bG (ao (aC (pv 0) rfl) (ao (pv 1) (ao (pv 2) aB)))) aB))))))),?_⟩
  refine ⟨_,rfl,rdF hR.o T.bT T.zO (z9 ..) ⟨_,rfl,_,_,rfl,rfl,_,rfl,p,_,dx,_,rfl,hR.o,T.bT,T.zO,(by show 8<1000;decide),?_⟩⟩
  rw [Ab]
  have b1:But p H (upd H p (.ins A.cX dx (rg (.int r) (.int (tt+w)) (.int ov) (.int un) (.int tn) (oV mi) (oV ma) (.ref a)))):=But.upd
  have o1:(upd H p (.ins A.cX dx (rg (.int r) (.int (tt+w)) (.int ov) (.int un) (.int tn) (oV mi) (oV ma) (.ref a)))) p=_:=aj
  have L1:=hR.l.but b1 hR.o
  generalize upd H p (.ins A.cX dx (rg (.int r) (.int (tt+w)) (.int ov) (.int un) (.int tn) (oV mi) (oV ma) (.ref a)))=H1 at b1 o1 L1 ⊢
  refine ⟨_,rfl,rdF o1 T.bT T.Dp (Ji ..) ⟨_,rfl,mi,some t,rfl,fun H2 s2=>⟨_,rfl,p,_,dx,_,rfl,s2 _ _ o1,T.bT,T.Dp,(by show 8<1000;decide),?_⟩⟩⟩
  rw [Ae]
  have b3:But p H2 (upd H2 p (.ins A.cX dx (rg (.int r) (.int (tt+w)) (.int ov) (.int un) (.int tn) (oV (lo2 mi (some t))) (oV ma) (.ref a)))):=But.upd
  have o3:(upd H2 p (.ins A.cX dx (rg (.int r) (.int (tt+w)) (.int ov) (.int un) (.int tn) (oV (lo2 mi (some t))) (oV ma) (.ref a)))) p=_:=aj
  have L3:=(L1.same s2).but b3 (s2 _ _ o1)
  have b03:But p H (upd H2 p (.ins A.cX dx (rg (.int r) (.int (tt+w)) (.int ov) (.int un) (.int tn) (oV (lo2 mi (some t))) (oV ma) (.ref a)))):=(b1.trans (s2.but p)).trans b3
  generalize upd H2 p (.ins A.cX dx (rg (.int r) (.int (tt+w)) (.int ov) (.int un) (.int tn) (oV (lo2 mi (some t))) (oV ma) (.ref a)))=H3 at b03 o3 L3 ⊢
  refine ⟨_,rfl,rdF o3 T.bT T.Dq (PK ..) ⟨_,rfl,ma,some t,rfl,fun H4 s4=>⟨_,rfl,p,_,dx,_,rfl,s4 _ _ o3,T.bT,T.Dq,(by show 8<1000;decide),?_⟩⟩⟩
  rw [DR]
  have b5:But p H4 (upd H4 p (.ins A.cX dx (rg (.int r) (.int (tt+w)) (.int ov) (.int un) (.int tn) (oV (lo2 mi (some t))) (oV (hi2 ma (some t))) (.ref a)))):=But.upd
  have o5:(upd H4 p (.ins A.cX dx (rg (.int r) (.int (tt+w)) (.int ov) (.int un) (.int tn) (oV (lo2 mi (some t))) (oV (hi2 ma (some t))) (.ref a)))) p=_:=aj
  have L5:=(L3.same s4).but b5 (s4 _ _ o3)
  have b05:But p H (upd H4 p (.ins A.cX dx (rg (.int r) (.int (tt+w)) (.int ov) (.int un) (.int tn) (oV (lo2 mi (some t))) (oV (hi2 ma (some t))) (.ref a)))):=(b03.trans (s4.but p)).trans b5
  generalize upd H4 p (.ins A.cX dx (rg (.int r) (.int (tt+w)) (.int ov) (.int un) (.int tn) (oV (lo2 mi (some t))) (oV (hi2 ma (some t))) (.ref a)))=H5 at b05 o5 L5 ⊢
  refine ⟨_,rfl,p,dx,_,rfl,o5,rgN tb_g%,?_⟩
  refine ⟨_,rfl,rdF o5 T.bT T.wC (qL ..) ⟨_,rfl,_,rfl,a,bs,ls,t,w,rfl,L5,w0,w64,by lia,fun l hl=>by have:=h1 l hl;lia,fun g bs' H6 ng L6 s6 fr6=>?_⟩⟩
  refine ⟨p,dx,g,bs',_,r,tt+w,ov,un,tn,lo2 mi (some t),hi2 ma (some t),.ref a,rfl,s6 _ _ o5,L6,r2,r64,RG.afd t _ _ h1,?_,?_,fun g2 bs2 out tn' ov' un' H7 st ng2 L7 o7 b7 _ fr7=>?_⟩
  ·have:=RG.Kv t 64 w.toNat ls tb_g%
   lia
  ·rw [RG.Ku]
   have:(2:Nat) ^ 400+2 ^ 64<2 ^ 500:=by decide
   lia
  ·have b07:But p H H7:=(b05.trans (s6.but p)).trans b7
   have n5:H5 g2=none:=s6.free ng2
   refine q g2 bs2 out tn' ov' un' H7 st ⟨o7,L7⟩ b07 (cW b05 n5 fun z=>by rw [z,o5] at n5;cases n5) fun c hc=>?_
   have h5:H5 c=none->c∈bs\/H c=none:=fun n=>.inr (cW b05 n fun z=>by rw [z,o5] at n;cases n)
   rcases fr7 c hc with z | z
   ·rcases fr6 c z with z | z
    ·exact .inl z
    ·exact h5 z
   ·exact h5 (s6.free z)
noncomputable def wf (aD aL eO eU:V):List (Str × V):=[("room",aD),("reach",aL),("clock",eO),("boxes",eU)]
theorem vL (aD aL eO eU:V):(wf aD aL eO eU).lookup ("room" : Str)=some aD:=by rfl
theorem qM (aD aL eO eU:V):(wf aD aL eO eU).lookup ("reach" : Str)=some aL:=by rfl
theorem jj (aD aL eO eU:V):(wf aD aL eO eU).lookup ("clock" : Str)=some eO:=by rfl
theorem u9 (aD aL eO eU:V):(wf aD aL eO eU).lookup ("boxes" : Str)=some eU:=by rfl
theorem akm (aD aL eO eU:V):bU "boxes" eU (bU "clock" eO (bU "reach" aL (bU "room" aD [])))=wf aD aL eO eU:=by
 unfold wf
 walk_at "rec"
theorem sO (aD aL eO eU y:V):bU "clock" y (wf aD aL eO eU)=wf aD aL y eU:=by
 unfold wf
 walk_at "rec"
theorem PN (aD aL eO eU y:V):bU "boxes" y (wf aD aL eO eU)=wf aD aL eO y:=by
 unfold wf
 walk_at "rec"
theorem KY (aD aL eO eU:V) (yG:¬ m = "room") (PX:¬ m = "reach") (ahn:¬ m = "clock") (aho:¬ m = "boxes"):(wf aD aL eO eU).lookup m=none:=by
 unfold wf
 rw [cV yG,cV PX,cV ahn,cV aho]
 rfl
noncomputable abbrev Bp:=Addr × WN.Box
variable {ps:List Bp}
noncomputable def bt (b:WN.Box):HO:=.tup [.int b.f,.int b.l,.int b.s]
structure Bxs (H:Hp) (l:Addr) (ps:List Bp):Prop where
 l:H l=some (.lst (ps.map fun p=>V.ref p.1))
 t:∀ p∈ps,H p.1=some (bt p.2)
noncomputable def bx (ps:List Bp):List WN.Box:=ps.map (·.2)
theorem yH (ps:List Bp):(bx ps).length=ps.length:=bA _
theorem Bxs.same (h:Bxs H l ps) (s:Same H H'):Bxs H' l ps:=⟨s _ _ h.l,fun p m=>s _ _ (h.t p m)⟩
theorem Bxs.but {q C:Addr} {fs:List (Str × V)} (h:Bxs H l ps) (s:But q H H') (hq:H q=some (.ins C e fs)):Bxs H' l ps :=
 ⟨s _ _ h.l (jg h.l hq (by intro z;cases z)),fun p m=>s _ _ (h.t p m) (jg (h.t p m) hq (by intro z;cases z))⟩
theorem Ez {y:V} (h:(ps.map fun p=>V.ref p.1)[i]? = some y):∃ p,ps[i]? = some p/\y=V.ref p.1:=by
 rw [iB] at h
 cases e:ps[i]? with
 | none=>rw [e] at h;cases h
 | some z=>rw [e] at h;exact ⟨z,rfl,(dB h).symm⟩
noncomputable def oH (room edge:Int) (bs:List WN.Box):List WN.Box:=(WN.settled room (bs.filter fun b=>decide (edge<b.l)).reverse).reverse
noncomputable def afQ:Sp:=fun vs H Q _=>∃ (l:Addr) (room:Int) (ps:List Bp),vs=[.ref l,.int room]/\Bxs H l ps/\ps.length<=10500/\0<=room/\room<=64 /\
 ∀ (l':Addr) (ps':List Bp) (H':Hp),H l'=none->bx ps'=(WN.settled room (bx ps).reverse).reverse->Bxs H' l' ps'->Same H H'->Q (.ref l') H'
noncomputable def RZ:Option Bp->V
 | none=>.non
 | some h=>.ref h.1
theorem akn {p:Bp} (h:ps.reverse[i]? = some p):(bx ps).reverse.drop i=p.2::(bx ps).reverse.drop (i+1):=by
 unfold bx
 rw [<- uc,<- Mx,<- Mx]
 have hi:i<ps.reverse.length:=(fQ.mp h).1
 rw [JK hi,f9]
 rw [(fQ.mp h).2]
theorem ok'9 (T:Tx K mg A):cY P w K mg base CX0 1 A.f'9 A.Ih ["boxes","room"] afQ:=by
 k_dat (T.F'9.ok,iU) "a"
 ·obtain ⟨l,room,ps,rfl,_⟩:=h
  rfl
 ·obtain ⟨l,room,ps,rfl,hb,h500,r0,r64,q⟩:=h
  refine ⟨_,(aq (aV (i:=2) iU.nd rfl (Or.inl rfl) (gG aB))
   (aq (aV (i:=3) iU.nd rfl (Or.inl rfl) aA)
   (aq (aV (i:=4) iU.nd rfl (Or.inl rfl) xX)
   (aq (rE oX rfl (aj4 rfl T.Ja (ao (pv 0) aB)) (gM (i:=5) iU.nd rfl (Or.inl rfl)) (aF (d9 (aR ajJ (pv 4) xX (aX _)) (aF (aV (i:=4) iU.nd rfl (Or.inl rfl) (pv 5))) (aF (d9 (aR JX (aJ jc (aJ bW (cI (ixG (bN hr)) (pv 4) aA (fun _ _=>rfl)) (cI (ixG (bN hr)) (pv 5) aA (fun _ _=>rfl))) (pv 1)) (pv 3) (aX _)) (aF (aV (i:=4) iU.nd rfl (Or.inl rfl) (xZ (ao (cI (ixG (bN hr)) (pv 5) aA (fun _ _=>rfl)) (ao (cI (ixG (bN hr)) (pv 4) aA (fun _ _=>rfl)) (ao (aJ bW (cI (ixG (bN hr)) (pv 5) aA (fun _ _=>rfl)) (cI (ixG (bN hr)) (pv 4) aA (fun _ _=>rfl))) aB)))))) (aq (cR (Ka BK Bx BJ jE (pv 2) (ao (pv 4) aB)))
   (aq (aV (i:=3) iU.nd rfl (Or.inl rfl) (aJ bW (pv 3) (cI (ixG (bN hr)) (pv 4) aA (fun _ _=>rfl))))
   (aF (aV (i:=4) iU.nd rfl (Or.inl rfl) (pv 5))))))))))
   (aq (d9 (aR Oh (pv 4) xX (aX _)) (aF (cR (Ka BK Bx BJ jE (pv 2) (ao (pv 4) aB)))) cQ)
   (aF (cC (Yp T.IW T.Ja (ao (pv 2) aB) rfl)))))))),?_⟩
  refine ⟨(by show 0<=sizeLine;decide),fun D hD=>?_⟩
  have sD:Same H (upd H D (.lst [])):=Same.new hD
  refine ⟨_,rfl,l,_,rfl,.inl (.inl (sD _ _ hb.l)),ag2 (K:=K) (a:=l) (xs:=ps.map fun p=>V.ref p.1) (fun i σ H2=>∃ (xb:Option V) (S:Int) (ds:List Bp) (hand:Option Bp),σ=[some (.ref l),some (.int room),some (.ref D),some (.int S),some (RZ hand),xb]/\Same H H2/\Bxs H2 D ds/\ds.length<=i /\
    (hand=none->i=0/\ds=[]/\S=0)/\(∀ h,hand=some h->1<=i/\H2 h.1=some (bt h.2)/\bx ds++WN.settle room S h.2 ((bx ps).reverse.drop i)=WN.settled room (bx ps).reverse))
   ⟨none,0,[],none,rfl,sD,⟨aj,(fun p m=>nomatch m)⟩,bV _,fun _=>⟨rfl,rfl,rfl⟩,(fun h e=>nomatch e)⟩ (fun i σ H2 _ ⟨_,_,_,_,_,s,_⟩=>.inl (.inl (s _ _ hb.l))) ?_ ?_⟩
  ·rintro i y σ H2 hi ⟨xb,S,ds,hand,rfl,s2,hD2,hlen,hn,hs⟩
   rw [<- uc] at hi
   obtain ⟨p,hp,rfl⟩:=Ez hi
   have hip:i<ps.length:=by
    have:=(fQ.mp hp).1
    rwa [Bh] at this
   have pm:p∈ps:=tZ.mp (List.mem_of_getElem? hp)
   have ht:=s2 _ _ (hb.t p pm)
   have hdrop:=akn hp
   cases hand with
   | none =>
    obtain ⟨rfl,rfl,rfl⟩:=hn rfl
    refine ⟨_,rfl,rfl,_,rfl,?_⟩
    rw [show decide (RZ none=V.non)=true from RM]
    refine Ea ⟨_,rfl,_,0,[],some p,rfl,s2,hD2,cB _,(fun e=>nomatch e),fun h e=>?_⟩
    obtain rfl:=dB e
    refine ⟨bV _,ht,?_⟩
    rw [ach] at hdrop
    rw [hdrop];rfl
   | some h =>
    obtain ⟨i1,hht,heq⟩:=hs h rfl
    rw [hdrop,WN.pD] at heq
    refine ⟨_,rfl,rfl,_,rfl,?_⟩
    rw [show decide (RZ (some h)=V.non)=false from RL]
    refine zp ?_
    refine ⟨_,rfl,eZ (.inl (.inl hht)) (v:=.int h.2.s) rfl ⟨_,rfl,eZ (.inl (.inl ht)) (v:=.int p.2.s) rfl ⟨_,_,rfl,rfl,_,rfl,_,_,rfl,rfl,fB tb_g% tb_g%,_,rfl,_,_,rfl,rfl,_,rfl,eF (fun hc=>?_) (fun hc=>?_)⟩⟩⟩
    ·have hc:(h.2.s+p.2.s)*room<=S:=of_decide_eq_true hc
     rw [if_pos hc] at heq
     refine ⟨_,rfl,eZ (.inl (.inl ht)) (v:=.int p.2.f) rfl ⟨_,rfl,eZ (.inl (.inl hht)) (v:=.int h.2.l) rfl ⟨_,rfl,eZ (.inl (.inl ht)) (v:=.int p.2.s) rfl ⟨_,rfl,eZ (.inl (.inl hht)) (v:=.int h.2.s) rfl ⟨_,_,rfl,rfl,(by show 3<=sizeLine;decide),fun t1 ht1=>?_⟩⟩⟩⟩⟩
     have s3:Same H2 (upd H2 t1 (bt ⟨p.2.f,h.2.l,p.2.s+h.2.s⟩)):=Same.new ht1
     refine ⟨_,S,ds,some (t1,⟨p.2.f,h.2.l,p.2.s+h.2.s⟩),rfl,s2.trans s3,hD2.same s3,by lia,(fun e=>nomatch e),fun h' e=>?_⟩
     obtain rfl:=dB e
     refine ⟨by lia,aj,?_⟩
     rw [show p.2.s+h.2.s=h.2.s+p.2.s by lia]
     exact heq
    ·have hc:¬ (h.2.s+p.2.s)*room<=S:=fun z=>hc (decide_eq_true z)
     rw [if_neg hc] at heq
     refine ⟨_,rfl,.inl ⟨rfl,_,.inl (.inl hD2.l)⟩,_,rfl,D,_,_,rfl,rfl,hD2.l,Jh (by rw [bA];lia),?_⟩
     have nD:∀ a b,H2 a=some (bt b)->a≠D:=fun a b e=>jg e hD2.l (by intro z;cases z)
     have ht3:∀ L,(upd H2 D L) h.1=some (bt h.2):=fun L=>by rw [au (nD _ _ hht)];exact hht
     refine ⟨_,rfl,_,rfl,eZ (.inl (.inl (ht3 _))) (v:=.int h.2.s) rfl ⟨_,_,rfl,rfl,?_⟩⟩
     refine ⟨_,rfl,_,S+h.2.s,ds++[h],some p,rfl,fun b o e=>?_,⟨?_,fun z m=>?_⟩,by rw [dh];show ds.length+1<=i+1;lia,(fun e=>nomatch e),fun h' e=>?_⟩
     ·rw [au (ak e hD)];exact s2 _ _ e
     ·rw [aj,dN];rfl
     ·rcases dg.mp m with m | m
      ·have:=hD2.t z m
       rw [au (nD _ _ this)];exact this
      ·rw [d8.mp m];exact ht3 _
     ·obtain rfl:=dB e
      refine ⟨by lia,by rw [au (nD _ _ ht)];exact ht,?_⟩
      unfold bx at heq ⊢
      rw [dN,iW]
      exact heq
  ·rintro σ H2 ⟨xb,S,ds,hand,rfl,s2,hD2,hlen,hn,hs⟩
   rw [bA] at hlen hn hs
   cases hand with
   | none =>
    obtain ⟨h0,rfl,rfl⟩:=hn rfl
    have e0:ps=[]:=vX.mp h0
    subst e0
    refine ⟨_,rfl,rfl,_,rfl,?_⟩
    rw [show decide (RZ none=V.non)=true from RM]
    refine zp ⟨_,rfl,D,_,rfl,.inl (.inl hD2.l),fun l' hl'=>?_⟩
    exact q l' [] _ (s2.free hl') rfl ⟨aj,(fun p m=>nomatch m)⟩ (s2.trans (Same.new hl'))
   | some h =>
    obtain ⟨i1,hht,heq⟩:=hs h rfl
    refine ⟨_,rfl,rfl,_,rfl,?_⟩
    rw [show decide (RZ (some h)=V.non)=false from RL]
    refine Ea ⟨_,rfl,.inl ⟨rfl,_,.inl (.inl hD2.l)⟩,_,rfl,D,_,_,rfl,rfl,hD2.l,Jh (by rw [bA];lia),?_⟩
    have nD:∀ a b,H2 a=some (bt b)->a≠D:=fun a b e=>jg e hD2.l (by intro z;cases z)
    have eL:((ds.map fun p=>V.ref p.1)++[V.ref h.1])=(ds++[h]).map fun p=>V.ref p.1:=by rw [dN];rfl
    have s3:Same H (upd H2 D (.lst ((ds.map fun p=>V.ref p.1)++[V.ref h.1]))):=fun b o e=>by rw [au (ak e hD)];exact s2 _ _ e
    have t3:∀ p∈ds++[h],(upd H2 D (.lst ((ds.map fun p=>V.ref p.1)++[V.ref h.1]))) p.1=some (bt p.2):=fun z m=>by
     rcases dg.mp m with m | m
     ·have:=hD2.t z m
      rw [au (nD _ _ this)];exact this
     ·rw [d8.mp m,au (nD _ _ hht)];exact hht
    refine ⟨_,rfl,D,_,rfl,.inl (.inl aj),fun l' hl'=>?_⟩
    refine q l' (ds++[h]).reverse _ (s3.free hl') ?_ ⟨?_,fun z m=>?_⟩ (s3.trans (Same.new hl'))
    ·rw [TF (by rw [Bh,yH];exact bV _),WN.Yl] at heq
     rw [<- heq]
     unfold bx
     rw [uc,dN];rfl
    ·rw [aj,uc,<- eL];rfl
    ·rw [au (ak (t3 z (tZ.mp m)) hl')]
     exact t3 z (tZ.mp m)
noncomputable def ahp (A:Ad):Sp:=fun vs H Q _=>∃ (p dx:Addr) (r k:Int),vs=[.ref p,.int r,.int k]/\H p=some (.ins A.gW dx []) /\
 ∀ (d:Addr) (H':Hp),H d=none->H' p=some (.ins A.gW dx (wf (.int r) (.int k) (.int 0) (.ref d)))->H' d=some (.lst [])->But p H H'->Q .non H'
theorem ah4 (T:Tx K mg A):cY P w K mg base CX0 1 A.Qe A.qe ["self","room","reach"] (ahp A):=by
 k_dat (T.F'10.ok,Jd) "a"
 ·obtain ⟨p,dx,r,k,rfl,_⟩:=h
  rfl
 ·obtain ⟨p,dx,r,k,rfl,hp,q⟩:=h
  refine ⟨_,(aq (aU (pv 0) (pv 1) rfl)
   (aq (aU (pv 0) (pv 2) rfl)
   (aq (aU (pv 0) aA rfl)
   (aF (aU (pv 0) (gG aB) rfl))))),?_⟩
  refine ⟨_,rfl,_,rfl,p,_,dx,[],rfl,hp,T.dJ,T.zP,(by show 0<1000;decide),?_⟩
  refine ⟨_,rfl,_,rfl,p,_,dx,_,rfl,aj,T.dJ,T.zQ,(by show 1<1000;decide),?_⟩
  k_dat (p,dx,aj,T.dJ,T.mK,2) "e"
  rw [cJ,cJ]
  refine ⟨(by show 0<=sizeLine;decide),fun d hd=>?_⟩
  have npd:p≠d:=fun z=>by rw [<- z,aj] at hd;cases hd
  rw [au (aK npd)] at hd
  refine ⟨_,rfl,p,_,dx,_,rfl,(by rw [au npd];exact aj),T.dJ,T.zR,(by show 3<1000;decide),?_⟩
  refine q d _ hd (GC aj (by rw [akm])) (by rw [au (aK npd),aj]) fun b o e hb=>?_
  rw [au hb,au (ak e hd),au hb]
  exact e
/-- a Window -/
structure Wn (A:Ad) (H:Hp) (p dx l:Addr) (r k c:Int) (ps:List Bp):Prop where
 o:H p=some (.ins A.gW dx (wf (.int r) (.int k) (.int c) (.ref l)))
 b:Bxs H l ps
theorem Wn.same {p:Addr} {c:Int} (h:Wn A H p dx l r k c ps) (s:Same H H'):Wn A H' p dx l r k c ps:=⟨s _ _ h.o,h.b.same s⟩
theorem Wn.but {p q C:Addr} {fs:List (Str × V)} {c:Int} (h:Wn A H p dx l r k c ps) (s:But q H H') (hq:H q=some (.ins C e fs)) (n:p≠q):Wn A H' p dx l r k c ps:=⟨s _ _ h.o n,h.b.but s hq⟩
noncomputable def aaX (A:Ad):Sp:=fun vs H Q _=>∃ (p dx l l0:Addr) (r k c:Int) (ps:List Bp),vs=[.ref p,.ref l]/\H p=some (.ins A.gW dx (wf (.int r) (.int k) (.int c) (.ref l0)))/\Bxs H l ps/\ps.length<=10500/\0<=r/\r<=64 /\
 ∀ (l':Addr) (ps':List Bp) (H':Hp),bx ps'=oH r (c-k) (bx ps)->Wn A H' p dx l' r k c ps'->But p H H'->H l'=none->Q .non H'
theorem afR (T:Tx K mg A):cY P w K mg base CX0 2 A.VF A.lY ["self","boxes"] (aaX A):=by
 k_dat (T.F'11.ok,kO) "a"
 ·obtain ⟨p,dx,l,l0,r,k,c,ps,rfl,_⟩:=h
  rfl
 ·obtain ⟨p,dx,l,l0,r,k,c,ps,rfl,hp,hb,h500,r0,r64,q⟩:=h
  refine ⟨_,(aq (aV (i:=2) kO.nd rfl (Or.inr rfl) (aJ xY (aC (pv 0) rfl) (aC (pv 0) rfl)))
   (aq (kj (i:=3) (cl:=[("edge",s.heap.objs.size+1)]) (N:=["box","edge"]) (caps:=[2]) (tt:=(aej (tOp _ (tOp (vR K) _ _) _))) (te:=_) kO.nd rfl (Or.inl rfl) rfl (by with_unfolding_all rfl) tb_g% rfl tb_g% ⟨rfl,trivial⟩ (lX (by with_unfolding_all rfl)) tb_g% rfl rfl rfl (dZ.at (k:=1) (show dZ _ _ _ _ 1 [2] from ⟨⟨"edge",_,rfl,rfl,.inl rfl,.inl rfl,rfl⟩,trivial⟩)) (pq (pv 1)) (fun _ _ _ _=>(zx (aR v8 (cI (ixG (by exact bN hr)) (pv 0) aA (fun _ _=>rfl)) (pv 1) (aX _)))) (fun _ _ _ _=>(pv 0)))
   (aF (aU (pv 0) (bB (ok'9 T) tb_g% rfl T.afC T.F'9.kp T.b'9 .nil bG (ao (pv 3) (ao (aC (pv 0) rfl) aB))) rfl)))),?_⟩
  refine ⟨_,rfl,rdF hp T.dJ T.mK (jj _ _ _ _) ⟨_,rfl,rdF hp T.dJ T.zQ (qM _ _ _ _) ⟨_,_,rfl,rfl,?_⟩⟩⟩
  refine ⟨_,rfl,l,rfl,⟨_,.inl (.inl hb.l)⟩,fun D hD=>?_⟩
  refine uM (K:=K) (a:=l) (xs:=ps.map fun p=>V.ref p.1) (fun i ys H2=>ys=((ps.take i).filter fun p=>decide (c-k<p.2.l)).map (fun p=>V.ref p.1)/\H2=upd H D (.lst ys)) ⟨by simp,rfl⟩ ?_ ?_ ?_ ?_ ?_
  ·rintro i ys H2 hi ⟨rfl,rfl⟩
   refine ⟨.inl (.inl ((Same.new hD) _ _ hb.l)),aj,Jh ?_⟩
   rw [bA]
   have:=Bf (fun p:Bp=>decide (c-k<p.2.l)) (ps.take i)
   rw [gJ] at this
   lia
  ·rintro i ys H2 x hx ⟨rfl,rfl⟩
   obtain ⟨z,hz,rfl⟩:=Ez hx
   have ht:=(Same.new (o:=.lst (((ps.take i).filter fun p=>decide (c-k<p.2.l)).map (fun p=>V.ref p.1))) hD) _ _ (hb.t z (List.mem_of_getElem? hz))
   refine ⟨_,rfl,eZ (.inl (.inl ht)) (v:=.int z.2.l) rfl ⟨_,rfl,_,_,rfl,rfl,_,rfl,eF (fun hc=>?_) (fun hc=>?_)⟩⟩
   ·have hc:c-k<z.2.l:=of_decide_eq_true hc
    refine ⟨_,rfl,aj,?_,by rw [cJ]⟩
    rw [vY,hz,tX,dN]
    show _=_++(([z]:List Bp).filter fun p=>decide (c-k<p.2.l)).map (fun p=>V.ref p.1)
    rw [Bc (by simpa using hc)];rfl
   ·have hc:¬ c-k<z.2.l:=fun y=>hc (decide_eq_true y)
    refine ⟨aj,?_,rfl⟩
    rw [vY,hz,tX,dN]
    show _=_++(([z]:List Bp).filter fun p=>decide (c-k<p.2.l)).map (fun p=>V.ref p.1)
    rw [FQ (by simpa using hc)];simp
  ·rintro ys H2 ⟨rfl,rfl⟩
   rw [bA,qT]
   have sD:Same H (upd H D (.lst ((ps.filter fun p=>decide (c-k<p.2.l)).map (fun p=>V.ref p.1)))):=Same.new hD
   have bD:Bxs (upd H D (.lst ((ps.filter fun p=>decide (c-k<p.2.l)).map (fun p=>V.ref p.1)))) D (ps.filter fun p=>decide (c-k<p.2.l)):=⟨aj,fun z m=>sD _ _ (hb.t z (xr.mp m).1)⟩
   generalize upd H D (.lst ((ps.filter fun p=>decide (c-k<p.2.l)).map (fun p=>V.ref p.1)))=H3 at sD bD ⊢
   have hlen:=Bf (fun p:Bp=>decide (c-k<p.2.l)) ps
   refine ⟨_,rfl,_,rfl,rdF (sD _ _ hp) T.dJ T.zP (vL _ _ _ _) ?_⟩
   refine ⟨D,r,_,rfl,bD,by lia,r0,r64,fun l' ps' H4 hl' e' b' s4=>?_⟩
   have hp4:=s4 _ _ (sD _ _ hp)
   k_dat (p,dx,hp4,T.dJ,T.zR,4) "e"
   rw [PN]
   have npl:∀ b o,H4 b=some o->(∀ C d fs,o ≠ .ins C d fs)->b≠p:=fun b o e n z=>by rw [z,hp4] at e;exact n _ _ _ (dB e).symm
   refine q l' ps' _ ?_ ⟨aj,⟨by rw [au (npl _ _ b'.l (by intro _ _ _ z;cases z))];exact b'.l,fun z m=>by rw [au (npl _ _ (b'.t z m) (by intro _ _ _ z;cases z))];exact b'.t z m⟩⟩ (fun b o e n=>by rw [au n];exact s4 _ _ (sD _ _ e)) (sD.free hl')
   rw [e']
   unfold oH bx
   rw [List.filter_map];rfl
  ·exact fun σ H R R' hr h=>jx (lg (jm (bO 0) (jw _)) (bO 1)) σ H R R' hr h
  ·exact bO 0
noncomputable def ako (A:Ad):Sp:=fun vs H Q _=>∃ (p dx l:Addr) (r k c v:Int) (ps:List Bp),vs=[.ref p,.int v]/\Wn A H p dx l r k c ps/\ps.length<=10400/\0<=r/\r<=64 /\
 ∀ (l':Addr) (ps':List Bp) (H':Hp),bx ps'=oH r (c+1-k) (bx ps++[⟨c+1,c+1,v⟩])->Wn A H' p dx l' r k (c+1) ps'->But p H H'->H l'=none->Q .non H'
theorem ok'12 (T:Tx K mg A):cY P w K mg base CX0 5 A.VG A.rY ["self","weight"] (ako A):=by
 k_dat (T.F'12.ok,JF) "a"
 ·obtain ⟨p,dx,l,r,k,c,v,ps,rfl,_⟩:=h
  rfl
 ·obtain ⟨p,dx,l,r,k,c,v,ps,rfl,hw,h400,r0,r64,q⟩:=h
  refine ⟨_,(aq (aU (pv 0) (aJ bW (aC (pv 0) rfl) aA) rfl)
   (aF (cR (dW (pv 0) T.dJ T.mG (afR T) tb_g% T.b'11 .nil bG (ao (aJ yd (aC (pv 0) rfl) (gG (ao (xZ (ao (aC (pv 0) rfl) (ao (aC (pv 0) rfl) (ao (pv 1) aB)))) aB))) aB))))),?_⟩
  refine ⟨_,rfl,rdF hw.o T.dJ T.mK (jj _ _ _ _) ⟨_,_,rfl,rfl,_,rfl,p,_,dx,_,rfl,hw.o,T.dJ,T.mK,(by show 4<1000;decide),?_⟩⟩
  rw [sO]
  have b1:But p H (upd H p (.ins A.gW dx (wf (.int r) (.int k) (.int (c+1)) (.ref l)))):=But.upd
  have w1:(upd H p (.ins A.gW dx (wf (.int r) (.int k) (.int (c+1)) (.ref l)))) p=some (.ins A.gW dx (wf (.int r) (.int k) (.int (c+1)) (.ref l))):=aj
  have x1:=hw.b.but b1 hw.o
  generalize upd H p (.ins A.gW dx (wf (.int r) (.int k) (.int (c+1)) (.ref l)))=H1 at b1 w1 x1 ⊢
  refine ⟨_,rfl,p,dx,_,rfl,w1,KY _ _ _ _ tb_g% tb_g% tb_g% tb_g%,?_⟩
  refine ⟨_,rfl,rdF w1 T.dJ T.zR (u9 _ _ _ _) ?_⟩
  refine ⟨_,rfl,rdF w1 T.dJ T.mK (jj _ _ _ _) ⟨_,rfl,rdF w1 T.dJ T.mK (jj _ _ _ _) ⟨_,rfl,(by show 3<=sizeLine;decide),fun t ht=>⟨(by show 1<=sizeLine;decide),fun l1 hl1=>?_⟩⟩⟩⟩
  have s2:Same H1 (upd H1 t (bt ⟨c+1,c+1,v⟩)):=Same.new ht
  have t2:(upd H1 t (bt ⟨c+1,c+1,v⟩)) t=some (bt ⟨c+1,c+1,v⟩):=aj
  show rCat _ _ (upd (upd H1 t (bt ⟨c+1,c+1,v⟩)) l1 (.lst [.ref t])) _
  have hl1':(upd H1 t (bt ⟨c+1,c+1,v⟩)) l1=none:=hl1
  generalize upd H1 t (bt ⟨c+1,c+1,v⟩)=H2 at s2 t2 hl1' ⊢
  have s3:Same H2 (upd H2 l1 (.lst [.ref t])):=Same.new hl1'
  have t3:(upd H2 l1 (.lst [.ref t])) l1=some (.lst [.ref t]):=aj
  generalize upd H2 l1 (.lst [.ref t])=H3 at s3 t3 ⊢
  refine ⟨l,l1,_,_,rfl,rfl,s3 _ _ (s2 _ _ x1.l),t3,mH (Jh (by rw [bA];show ps.length+1<=20000;lia)),fun l2 hl2=>?_⟩
  have s4:Same H3 (upd H3 l2 (.lst ((ps.map fun p=>V.ref p.1)++[.ref t]))):=Same.new hl2
  have s14:Same H1 (upd H3 l2 (.lst ((ps.map fun p=>V.ref p.1)++[.ref t]))):=s2.trans (s3.trans s4)
  have x4:Bxs (upd H3 l2 (.lst ((ps.map fun p=>V.ref p.1)++[.ref t]))) l2 (ps++[(t,⟨c+1,c+1,v⟩)]):=by
   refine ⟨by rw [aj,dN];rfl,fun z m=>?_⟩
   rcases dg.mp m with m | m
   ·exact s14 _ _ (x1.t z m)
   ·rw [d8.mp m];exact s4 _ _ (s3 _ _ t2)
  generalize upd H3 l2 (.lst ((ps.map fun p=>V.ref p.1)++[.ref t]))=H4 at s4 s14 x4 ⊢
  refine ⟨p,dx,l2,l,r,k,c+1,_,rfl,s14 _ _ w1,x4,by rw [dh];show ps.length+1<=10500;lia,r0,r64,fun l' ps' H5 e' w5 b5 n5=>?_⟩
  have bb:But p H H5:=fun b o e n=>b5 b o (s14 _ _ (b1 b o e n)) n
  refine q l' ps' H5 (by rw [e'];unfold bx;rw [dN];rfl) w5 bb ?_
  exact cW b1 (s14.free n5) (fun z=>by rw [z,s14 _ _ w1] at n5;cases n5)
noncomputable def ahq (A:Ad):Sp:=fun vs H Q _=>∃ (p dx l:Addr) (r k c v:Int) (ps:List Bp),vs=[.ref p,.int v]/\Wn A H p dx l r k c ps/\ps.length<=10400/\0<=r/\r<=64 /\
 ∀ (l':Addr) (ps':List Bp) (H':Hp),bx ps'=oH r (c+v-k) (bx ps)->Wn A H' p dx l' r k (c+v) ps'->But p H H'->H l'=none->Q .non H'
theorem ah5 (T:Tx K mg A):cY P w K mg base CX0 5 A.VH A.qg ["self","many"] (ahq A):=by
 k_dat (T.F'13.ok,Je) "a"
 ·obtain ⟨p,dx,l,r,k,c,v,ps,rfl,_⟩:=h
  rfl
 ·obtain ⟨p,dx,l,r,k,c,v,ps,rfl,hw,h400,r0,r64,q⟩:=h
  refine ⟨_,(aq (aU (pv 0) (aJ bW (aC (pv 0) rfl) (pv 1)) rfl)
   (aF (cR (dW (pv 0) T.dJ T.mG (afR T) tb_g% T.b'11 .nil bG (ao (aC (pv 0) rfl) aB))))),?_⟩
  refine ⟨_,rfl,rdF hw.o T.dJ T.mK (jj _ _ _ _) ⟨_,rfl,_,_,rfl,rfl,_,rfl,p,_,dx,_,rfl,hw.o,T.dJ,T.mK,(by show 4<1000;decide),?_⟩⟩
  rw [sO]
  have b1:But p H (upd H p (.ins A.gW dx (wf (.int r) (.int k) (.int (c+v)) (.ref l)))):=But.upd
  have w1:(upd H p (.ins A.gW dx (wf (.int r) (.int k) (.int (c+v)) (.ref l)))) p=some (.ins A.gW dx (wf (.int r) (.int k) (.int (c+v)) (.ref l))):=aj
  have x1:=hw.b.but b1 hw.o
  generalize upd H p (.ins A.gW dx (wf (.int r) (.int k) (.int (c+v)) (.ref l)))=H1 at b1 w1 x1 ⊢
  refine ⟨_,rfl,p,dx,_,rfl,w1,KY _ _ _ _ tb_g% tb_g% tb_g% tb_g%,?_⟩
  refine ⟨_,rfl,rdF w1 T.dJ T.zR (u9 _ _ _ _) ?_⟩
  refine ⟨p,dx,l,l,r,k,c+v,ps,rfl,w1,x1,by lia,r0,r64,fun l' ps' H5 e' w5 b5 n5=>?_⟩
  exact q l' ps' H5 e' w5 (fun b o e n=>b5 b o (b1 b o e n) n) (cW b1 n5 (fun z=>by rw [z,w1] at n5;cases n5))
open MK
noncomputable def afS:Sp:=fun vs H Q _=>∃ n:Int,vs=[.int n]/\Q (.int (n*770093176312745717 % 1152921504606846976)) H
theorem ok'14 (T:Tx K mg A):cY P w K mg base CX0 1 A.VJ A.Ii ["thing"] afS:=by
 k_dat (T.F'14.ok,aaV) "a"
 ·obtain ⟨n,rfl,_⟩:=h
  rfl
 ·obtain ⟨n,rfl,q⟩:=h
  obtain ⟨_,akp,akq⟩:=T.ake
  obtain ⟨_,afT,afU⟩:=T.afL
  refine ⟨_,(aF (cC (aJ dF (aJ jc (pv 0) (Od (v:=.int 770093176312745717) rfl afT afU)) (Od (v:=.int 1152921504606846976) rfl akp akq)))),?_⟩
  exact ⟨_,rfl,_,_,rfl,rfl,fB (by decide) (by decide),_,_,rfl,rfl,(by show (0:Int)<1152921504606846976;decide),q⟩
noncomputable def yI (r:Int) (h:Nat):Prop:=(r=0/\h=60)\/Jr r h
theorem yI.uniq {k:Nat} (a:yI r h) (b:yI r k):h=k:=by
 rcases a with ⟨a,rfl⟩ | a
 ·rcases b with ⟨_,rfl⟩ | b
  ·rfl
  ·exact absurd a b.ne
 ·rcases b with ⟨b,rfl⟩ | b
  ·exact absurd b a.ne
  ·exact a.uniq b
noncomputable def akr:Sp:=fun vs H Q _=>∃ n:Int,vs=[.int n]/\∀ h:Nat,yI (n*770093176312745717 % 1152921504606846976) h->Q (.int h) H
/-- what is left to halve -/
noncomputable def restOf (σ:St) (_:Hp):Nat:=match σ with
 | [_,some (.int x),_]=>x.toNat
 | _=>0
theorem ah6 (T:Tx K mg A):cY P w K mg base CX0 2 A.VL A.Ys ["thing"] akr:=by
 k_dat (T.F'15.ok,z8) "a"
 ·obtain ⟨n,rfl,_⟩:=h
  rfl
 ·obtain ⟨n,rfl,q⟩:=h
  obtain ⟨_,El,En⟩:=T.Ef
  refine ⟨_,(aq (aV (i:=1) z8.nd rfl (Or.inl rfl) (bB (ok'14 T) tb_g% rfl T.afD T.F'14.kp T.b'14 .nil bG (ao (pv 0) aB)))
   (aq (d9 (aR mJ (pv 1) aA (aX _)) (aF (cC (Od (v:=.int 60) rfl El En))) cQ)
   (aq (aV (i:=2) z8.nd rfl (Or.inl rfl) aA)
   (aq (yZ oX (aR mJ (aJ dF (pv 1) aA) aA (aX _)) (aq (aV (i:=1) z8.nd rfl (Or.inl rfl) (aJ gw (pv 1) aA))
   (aF (aV (i:=2) z8.nd rfl (Or.inl rfl) (aJ bW (pv 2) aA)))))
   (aF (cC (pv 2))))))),?_⟩
  refine ⟨_,rfl,n,rfl,?_⟩
  have z0:=qZ (n*770093176312745717) (show (1152921504606846976:Int)≠0 by decide)
  have z1:=yQ (n*770093176312745717) (show (0:Int)<1152921504606846976 by decide)
  generalize n*770093176312745717 % 1152921504606846976=r at q z0 z1
  refine ⟨_,rfl,rfl,_,rfl,eF (fun h=>?_) (fun h=>?_)⟩
  ·have e:V.int r=V.int 0:=of_decide_eq_true h
   exact q 60 (.inl ⟨V.int.inj e,rfl⟩)
  ·have ne:r≠0:=fun z=>h (decide_eq_true (congrArg V.int z))
   refine za (fun σ H'=>∃ (x:Int) (i:Nat),σ=[some (.int n),some (.int x),some (.int (i:Int))]/\To r x i/\H'=H) restOf ⟨r,0,rfl,⟨by simp,ne⟩,rfl⟩ ?_
    (fun σ H Q Q' hq ⟨v,e,i,j,e1,e2,h,sc,k,e3,q⟩=>⟨v,e,i,j,e1,e2,h,sc,k,e3,hq _ _ q⟩)
   rintro σ H' ⟨x,i,rfl,ht,rfl⟩
   refine ⟨_,rfl,_,_,rfl,rfl,(by show (0:Int)<2;decide),rfl,_,rfl,eF (fun h=>?_) (fun h=>?_)⟩
   ·have e:x % 2=0:=V.int.inj (of_decide_eq_true h)
    have hx:=ht.lt tb_g% z1
    refine ⟨_,rfl,_,_,rfl,rfl,⟨by decide,by decide⟩,_,rfl,_,_,rfl,rfl,⟨x / 2,i+1,?_,ht.step e,rfl⟩,?_⟩
    ·rw [show ((i+1:Nat):Int)=(i:Int)+1 by lia];rfl
    ·show (x / 2).toNat<x.toNat
     lia
   ·have e:¬ x % 2=0:=fun z=>h (decide_eq_true (congrArg V.int z))
    exact ⟨_,rfl,q i (.inr (ht.stop e))⟩
noncomputable def df (aD bY dX fX:V):List (Str × V):=[("room",aD),("arrivals",bY),("level",dX),("kept",fX)]
theorem vM (aD bY dX fX:V):(df aD bY dX fX).lookup ("room" : Str)=some aD:=by rfl
theorem vd (aD bY dX fX:V):(df aD bY dX fX).lookup ("arrivals" : Str)=some bY:=by rfl
theorem oJ (aD bY dX fX:V):(df aD bY dX fX).lookup ("level" : Str)=some dX:=by rfl
theorem Af (aD bY dX fX:V):(df aD bY dX fX).lookup ("kept" : Str)=some fX:=by rfl
theorem aks (aD bY dX fX:V):bU "kept" fX (bU "level" dX (bU "arrivals" bY (bU "room" aD [])))=df aD bY dX fX:=by
 unfold df
 walk_at "rec"
theorem tL (aD bY dX fX y:V):bU "arrivals" y (df aD bY dX fX)=df aD y dX fX:=by
 unfold df
 walk_at "rec"
theorem Ag (aD bY dX fX y:V):bU "level" y (df aD bY dX fX)=df aD bY y fX:=by
 unfold df
 walk_at "rec"
theorem R4 (aD bY dX fX y:V):bU "kept" y (df aD bY dX fX)=df aD bY dX y:=by
 unfold df
 walk_at "rec"
theorem afV (aD bY dX fX:V) (yG:¬ m = "room") (Yv:¬ m = "arrivals") (ahr:¬ m = "level") (akt:¬ m = "kept"):(df aD bY dX fX).lookup m=none:=by
 unfold df
 rw [cV yG,cV Yv,cV ahr,cV akt]
 rfl
noncomputable def ahs (A:Ad):Sp:=fun vs H Q _=>∃ (p dx:Addr) (r:Int),vs=[.ref p,.int r]/\H p=some (.ins A.gK dx []) /\
 ∀ (d:Addr) (H':Hp),H d=none->H' p=some (.ins A.gK dx (df (.int r) (.int 0) (.int 0) (.ref d)))->H' d=some (.lst [])->But p H H'->Q .non H'
theorem ah7 (T:Tx K mg A):cY P w K mg base CX0 1 A.Qf A.lZ ["self","room"] (ahs A):=by
 k_dat (T.F'16.ok,CG) "a"
 ·obtain ⟨p,dx,r,rfl,_⟩:=h
  rfl
 ·obtain ⟨p,dx,r,rfl,hp,q⟩:=h
  refine ⟨_,(aq (aU (pv 0) (pv 1) rfl)
   (aq (aU (pv 0) aA rfl)
   (aq (aU (pv 0) aA rfl)
   (aF (aU (pv 0) (gG aB) rfl))))),?_⟩
  refine ⟨_,rfl,_,rfl,p,_,dx,[],rfl,hp,T.fJ,T.zT,(by show 0<1000;decide),?_⟩
  k_dat (p,dx,aj,T.fJ,T.Dr,1) "e"
  k_dat (p,dx,aj,T.fJ,T.uO,2) "e"
  rw [cJ,cJ]
  refine ⟨(by show 0<=sizeLine;decide),fun d hd=>?_⟩
  have npd:p≠d:=fun z=>by rw [<- z,aj] at hd;cases hd
  rw [au (aK npd)] at hd
  refine ⟨_,rfl,p,_,dx,_,rfl,(by rw [au npd];exact aj),T.fJ,T.zU,(by show 3<1000;decide),?_⟩
  refine q d _ hd (GC aj (by rw [aks])) (by rw [au (aK npd),aj]) fun b o e hb=>?_
  rw [au hb,au (ak e hd),au hb]
  exact e
theorem aht {n:Int} (m:yI (n*770093176312745717 % 1152921504606846976) h):h<=60:=by
 rcases m with ⟨_,rfl⟩ | m
 ·exact bV _
 ·have:=m.lt (qZ _ (by decide)) (yQ _ (by decide))
  lia
theorem ZQ:∀ (n:Nat) (r:Int),r.natAbs<=n->r≠0->∃ h,Jr r h
 | 0,r,h,h0=>absurd (show r=0 by lia) h0
 | n+1,r,h,h0=>by
  by_cases e:r % 2=1
  ·exact ⟨0,r,by simp,e⟩
  ·obtain ⟨k,m,e1,e2⟩:=ZQ n (r / 2) tb_g% tb_g%
   refine ⟨k+1,m,?_,e2⟩
   rw [pY,<- xQ,<- e1]
   lia
theorem P0 (k:Int):∃ h,yI (k*770093176312745717 % 1152921504606846976) h:=by
 by_cases e:k*770093176312745717 % 1152921504606846976=0
 ·exact ⟨60,.inl ⟨e,rfl⟩⟩
 ·obtain ⟨h,hh⟩:=ZQ _ _ (bV _) e
  exact ⟨h,.inr hh⟩
/-- the mark of k -/
noncomputable def mkOf (k:Int):Int:=(adP (P0 k):Nat)
theorem mk_eq (m:yI (k*770093176312745717 % 1152921504606846976) h):(h:Int)=mkOf k:=by
 rw [m.uniq (adO (P0 k))];rfl
theorem mk_le (k:Int):mkOf k<=60:=by
 obtain ⟨h,m⟩:=P0 k
 have:=aht m
 rw [<- mk_eq m];lia
noncomputable def up (v:Int) (ks:List Int):List Int:=ks.filter fun z=>decide (v<=mkOf z)
theorem ZR {w:Int} (h:v<=w) (ks:List Int):up w (up v ks)=up w ks:=by
 unfold up
 rw [List.filter_filter]
 apply List.filter_congr
 intro x _
 by_cases e:w<=mkOf x
 ·rw [decide_eq_true e,decide_eq_true (show v<=mkOf x by lia)];rfl
 ·rw [decide_eq_false e];rfl
theorem aku (h:∀ z∈ks,v<=mkOf z):up v ks=ks:=by
 unfold up
 rw [TQ]
 exact fun z hz=>decide_eq_true (h z hz)
theorem ZS (h:60<v) (ks:List Int):up v ks=[]:=by
 unfold up
 rw [CT]
 intro z _ e
 have:=of_decide_eq_true e
 have:=mk_le z
 lia
theorem oK :z∈up v ks↔z∈ks/\v<=mkOf z:=by
 unfold up;rw [xr,decide_eq_true_iff]
/-- the sorted one -/
noncomputable def srt (ns:List Int):List Int:=ns.mergeSort fun a b=>decide (a<=b)
theorem mW:∀ {xs ys:List Int},xs.Perm ys->xs.Pairwise (· <= ·)->ys.Pairwise (· <= ·)->xs=ys
 | [],ys,p,_,_=>by rw [acj.mp p]
 | x::xs,[],p,_,_=>absurd p (by simp)
 | x::xs,y::ys,p,h1,h2=>by
  have a1:=iV.mp h1
  have a2:=iV.mp h2
  have e:x=y:=by
   have m1:x∈y::ys:=p.mem_iff.mp cZ
   have m2:y∈x::xs:=p.mem_iff.mpr cZ
   rcases cU.mp m1 with z | z
   ·exact z
   ·rcases cU.mp m2 with z' | z'
    ·exact z'.symm
    ·exact ac7 (a1.1 y z') (a2.1 x z)
  subst e
  rw [mW (adH p) a1.2 a2.2]
theorem gZ (ns:List Int):(srt ns).Perm ns:=ab1 _ _
theorem rO (ns:List Int):(srt ns).Pairwise (· <= ·):=by
 have:=abR (le:=fun a b:Int=>decide (a<=b)) (fun a b c h1 h2=>by simp only [decide_eq_true_eq] at *; lia) (fun a b=>by simp only [adk,decide_eq_true_eq];lia) ns
 exact this.imp fun h=>of_decide_eq_true h
theorem nM {ms:List Int} (p:ms.Perm ns) (h:ms.Pairwise (· <= ·)):ms=srt ns:=mW (p.trans (gZ ns).symm) h (rO ns)
theorem KZ {ms:List Int} (p:ms.Perm ns):srt ms=srt ns:=mW ((gZ ms).trans (p.trans (gZ ns).symm)) (rO _) (rO _)
theorem Yw (v:Int) (ns:List Int):up v (srt ns)=srt (up v ns):=nM ((gZ ns).filter _) ((rO ns).filter _)
theorem fZ (ns:List Int):(srt ns).length=ns.length:=(gZ ns).length_eq
theorem pC :z∈srt ns↔z∈ns:=(gZ ns).mem_iff
noncomputable def aaY:Sp:=fun vs H Q _=>∃ (l:Addr) (v:Int) (ks:List Int),vs=[.ref l,.int v]/\H l=some (.lst (ks.map V.int))/\ks.length<=900 /\
 ∀ (l':Addr) (H':Hp),H l'=none->H' l'=some (.lst ((up v ks).map V.int))->Same H H'->Q (.ref l') H'
theorem ah8 (T:Tx K mg A):cY P w K mg base CX0 3 A.VN A.yx ["things","level"] aaY:=by
 k_dat (T.F'17.ok,RV) "a"
 ·obtain ⟨l,v,ks,rfl,_⟩:=h
  rfl
 ·obtain ⟨l,v,ks,rfl,hl,h500,q⟩:=h
  refine ⟨_,(aF (cC (zy (cl:=[("level",s.heap.objs.size+1)]) (N:=["thing","level"]) (caps:=[1]) (tt:=_) (te:=_) rfl (by with_unfolding_all rfl) tb_g% rfl tb_g% ⟨rfl,trivial⟩ (lX (by with_unfolding_all rfl)) tb_g% rfl rfl rfl (dZ.at (k:=1) (show dZ _ _ _ _ 1 [1] from ⟨⟨"level",_,rfl,rfl,.inl rfl,.inl rfl,rfl⟩,trivial⟩)) (pq (pv 0)) (fun _ _ _ _=>(zx (aR aei (bB (ah6 T) (by exact hr.mono (by decide)) rfl T.afE T.F'15.kp T.b'15 .nil bG (ao (pv 0) aB)) (pv 1) (aX _)))) (fun _ _ _ _=>(pv 0))))),?_⟩
  refine ⟨_,rfl,l,rfl,⟨_,.inl (.inl hl)⟩,fun D hD=>?_⟩
  refine uM (K:=K) (a:=l) (xs:=ks.map V.int) (fun i ys H2=>ys=(up v (ks.take i)).map V.int/\H2=upd H D (.lst ys)) ⟨rfl,rfl⟩ ?_ ?_ ?_ ?_ ?_
  ·rintro i ys H2 hi ⟨rfl,rfl⟩
   refine ⟨.inl (.inl ((Same.new hD) _ _ hl)),aj,cL ?_⟩
   have:(up v (ks.take i)).length<=(ks.take i).length:=Bf _ _
   rw [gJ] at this
   rw [bA]
   lia
  ·rintro i ys H2 x hx ⟨rfl,rfl⟩
   obtain ⟨z,hz,rfl⟩:=int_at hx
   refine ⟨_,rfl,z,rfl,fun h hh=>⟨_,rfl,_,_,rfl,rfl,_,rfl,eF (fun hc=>?_) (fun hc=>?_)⟩⟩
   ·have hc:v<=(h:Int):=of_decide_eq_true hc
    rw [mk_eq hh] at hc
    refine ⟨_,rfl,aj,?_,by rw [cJ]⟩
    have e:up v (ks.take (i+1))=up v (ks.take i)++[z]:=by
     rw [vY,hz]
     unfold up
     rw [tX]
     simp [hc]
    rw [e,dN];rfl
   ·have hc:¬ v<=(h:Int):=fun y=>hc (decide_eq_true y)
    rw [mk_eq hh] at hc
    refine ⟨aj,?_,rfl⟩
    have e:up v (ks.take (i+1))=up v (ks.take i):=by
     rw [vY,hz]
     unfold up
     rw [tX]
     simp [hc]
    rw [e]
  ·rintro ys H2 ⟨rfl,rfl⟩
   rw [bA,qT]
   exact q D _ hD aj (Same.new hD)
  ·exact fun σ H R R' hr ⟨v,e,n,en,q⟩=>⟨v,e,n,en,fun h m=>by
    obtain ⟨u,eu,i,j,ei,ej,k,ek,r⟩:=q h m
    exact ⟨u,eu,i,j,ei,ej,k,ek,hr _ _ r⟩⟩
  ·exact bO 0
/-- a Distinct -/
structure Dn (A:Ad) (H:Hp) (p dx l:Addr) (r n v:Int) (ks:List Int):Prop where
 o:H p=some (.ins A.gK dx (df (.int r) (.int n) (.int v) (.ref l)))
 l:H l=some (.lst (ks.map V.int))
theorem Dn.same {p:Addr} {n:Int} (h:Dn A H p dx l r n v ks) (s:Same H H'):Dn A H' p dx l r n v ks:=⟨s _ _ h.o,s _ _ h.l⟩
theorem Dn.but {p q C:Addr} {fs:List (Str × V)} {n:Int} (h:Dn A H p dx l r n v ks) (s:But q H H') (hq:H q=some (.ins C e fs)) (m:p≠q):Dn A H' p dx l r n v ks:=⟨s _ _ h.o m,s _ _ h.l (jg h.l hq (by intro z;cases z))⟩
/-- the level that v must rise to -/
noncomputable def Lvl (r v v':Int) (ks:List Int):Prop:=v<=v'/\((up v' ks).length:Int)<=r/\∀ w,v<=w->w<v'->r<((up w ks).length:Int)
theorem Lvl.le {v':Int} (h:Lvl r v v' ks) (r0:0<=r) (hv:v<=61):v'<=61:=by
 rcases (show v'<=61\/61<v' by lia) with z | z
 ·exact z
 ·have:=h.2.2 61 hv z
  rw [ZS (by decide)] at this
  have e:(([]:List Int).length:Int)=0:=rfl
  lia
noncomputable def aaZ (A:Ad):Sp:=fun vs H Q _=>∃ (p dx l l0:Addr) (r n v:Int) (ks:List Int),vs=[.ref p,.ref l]/\H p=some (.ins A.gK dx (df (.int r) (.int n) (.int v) (.ref l0)))/\H l=some (.lst (ks.map V.int))/\ks.length<=900/\0<=r/\0<=v/\v<=61/\(∀ z∈ks,v<=mkOf z) /\
 ∀ (l':Addr) (v':Int) (H':Hp),Lvl r v v' ks->Dn A H' p dx l' r n v' (up v' (srt ks))->But p H H'->H l'=none->Q .non H'
noncomputable def lvV:Option V->Nat
 | some (.int v)=>(100-v).toNat
 | _=>0
noncomputable def lvO:Option HO->Nat
 | some (.ins _ _ fs)=>lvV (fs.lookup ("level" : Str))
 | _=>0
noncomputable def lvOf (σ:St) (H:Hp):Nat:=match σ with
 | some (.ref p)::_=>lvO (H p)
 | _=>0
theorem ZV {p C:Addr} {a b c:V} (h:H p=some (.ins C dx (df a b (.int v) c))):lvOf (some (.ref p)::σ) H=(100-v).toNat:=by
 show lvO (H p)=_
 rw [h]
 show lvV ((df a b (.int v) c).lookup ("level" : Str))=_
 rw [oJ];rfl
theorem ah9 (T:Tx K mg A):cY P w K mg base CX0 4 A.VP A.jO ["self","things"] (aaZ A):=by
 k_dat (T.F'18.ok,jy) "a"
 ·obtain ⟨p,dx,l,l0,r,n,v,ks,rfl,_⟩:=h
  rfl
 ·obtain ⟨p,dx,l,l0,r,n,v,ks,rfl,hp,hl,h900,r0,v0,v61,hv,q⟩:=h
  refine ⟨_,(aq (aV (i:=2) jy.nd rfl (Or.inl rfl) (bF (jM rfl) (by rfl) T.oE Br (ao (pv 1) aB)))
   (aq (yZ oX (aR v8 (bF cD (by rfl) T.g8 gQ (ao (pv 2) aB)) (aC (pv 0) rfl) (aX _)) (aq (aU (pv 0) (aJ bW (aC (pv 0) rfl) aA) rfl)
   (aF (aV (i:=2) jy.nd rfl (Or.inl rfl) (bB (ah8 T) tb_g% rfl T.Ir T.F'17.kp T.b'17 .nil bG (ao (pv 2) (ao (aC (pv 0) rfl) aB)))))))
   (aF (aU (pv 0) (pv 2) rfl)))),?_⟩
  refine ⟨_,rfl,.inr ⟨l,ks,rfl,.inl (.inl hl),by lia,fun l1 ms hl1 pm so=>?_⟩⟩
  have s1:Same H (upd H l1 (.lst (ms.map V.int))):=Same.new hl1
  have f1:(upd H l1 (.lst (ms.map V.int))) l1=some (.lst (ms.map V.int)):=aj
  obtain rfl:ms=srt ks:=nM pm so
  have lm:=pm.length_eq
  show Xl _ _ _ [some (.ref p),some (.ref l),some (.ref l1)] (upd H l1 (.lst ((srt ks).map V.int)))
  generalize upd H l1 (.lst ((srt ks).map V.int))=H1 at s1 f1 ⊢
  have e0:up v (srt ks)=srt ks:=aku fun z hz=>hv z (pC.mp hz)
  have lu:∀ w,(up w (srt ks)).length=(up w ks).length:=fun w=>by rw [Yw,fZ]
  refine za (fun σ G=>∃ (l2:Addr) (w:Int),σ=[some (.ref p),some (.ref l),some (.ref l2)]/\H l2=none/\G p=some (.ins A.gK dx (df (.int r) (.int n) (.int w) (.ref l0)))/\G l2=some (.lst ((up w (srt ks)).map V.int))/\But p H G/\v<=w/\(w<=61)/\∀ u,v<=u->u<w->r<((up u ks).length:Int)) lvOf
   ⟨l1,v,rfl,hl1,s1 _ _ hp,by rw [e0];exact f1,s1.but p,cP _,v61,fun u a b=>by lia⟩ ?_ ?_
  ·rintro σ G ⟨l2,w,rfl,nl2,gp,gl,bt,hvw,hw,hd⟩
   have lms:(up w (srt ks)).length<=ks.length:=by rw [lu];exact Bf _ _
   refine ⟨_,rfl,eX (.inl (.inl gl)) ⟨_,rfl,rdF gp T.fJ T.zT (vM _ _ _ _) ⟨_,_,rfl,rfl,_,rfl,eF (fun hc=>?_) (fun hc=>?_)⟩⟩⟩
   ·have hc:r<(((up w (srt ks)).map V.int).length:Int):=of_decide_eq_true hc
    rw [bA] at hc
    have hw60:w<=60:=by
     rcases (show w<=60\/60<w by lia) with z | z
     ·exact z
     ·rw [ZS z] at hc
      have e:(([]:List Int).length:Int)=0:=rfl
      lia
    refine ⟨_,rfl,rdF gp T.fJ T.uO (oJ _ _ _ _) ⟨_,_,rfl,rfl,_,rfl,p,_,dx,_,rfl,gp,T.fJ,T.uO,(by show 4<1000;decide),?_⟩⟩
    rw [Ag]
    have npl:l2≠p:=jg gl gp (by intro z;cases z)
    have b2:But p G (upd G p (.ins A.gK dx (df (.int r) (.int n) (.int (w+1)) (.ref l0)))):=But.upd
    have o2:(upd G p (.ins A.gK dx (df (.int r) (.int n) (.int (w+1)) (.ref l0)))) p=some (.ins A.gK dx (df (.int r) (.int n) (.int (w+1)) (.ref l0))):=aj
    have lw:=ZV (σ:=[some (.ref l),some (.ref l2)]) gp
    have gl2:=b2 _ _ gl npl
    refine ⟨_,rfl,_,rfl,rdF o2 T.fJ T.uO (oJ _ _ _ _) ⟨l2,w+1,_,rfl,gl2,by lia,fun l3 G3 nl3 gl3 s3=>?_⟩⟩
    have nl3':H l3=none:=by
     refine cW (fun b o e m=>b2 b o (bt b o e m) m) nl3 fun z=>?_
     rw [z,o2] at nl3;cases nl3
    rw [ZR (show w<=w+1 by lia)] at gl3
    refine ⟨⟨l3,w+1,rfl,nl3',s3 _ _ o2,gl3,fun b o e m=>s3 _ _ (b2 b o (bt b o e m) m),by lia,by lia,fun u a b=>?_⟩,?_⟩
    ·rcases (show u<w\/u=w by lia) with z | z
     ·exact hd u a z
     ·rw [z,<- lu];exact hc
    ·rw [lw]
     refine Gk (M6 (ZV (s3 _ _ o2))) ?_
     lia
   ·have hc:¬ r<(((up w (srt ks)).map V.int).length:Int):=fun z=>hc (decide_eq_true z)
    rw [bA] at hc
    refine ⟨_,rfl,_,rfl,p,_,dx,_,rfl,gp,T.fJ,T.zU,(by show 4<1000;decide),?_⟩
    rw [R4]
    have npl:l2≠p:=jg gl gp (by intro z;cases z)
    refine q l2 w _ ⟨hvw,by rw [<- lu];lia,hd⟩ ⟨aj,by rw [au npl];exact gl⟩ (fun b o e m=>by rw [au m];exact bt b o e m) nl2
  ·exact fun σ H Q Q' hq h=>jx (lg (RJ (gq (bO 2) qI)) (Ie (bO 0))) σ H Q Q' hq h
theorem afW (k:Int) (ks:List Int):inV (.int k) (ks.map V.int)=decide (k∈ks):=by
 induction ks with
 | nil=>rfl
 | cons x r ih =>
  show (eqV (.int x) (.int k) || inV (.int k) (r.map V.int))=_
  rw [ih]
  show ((x == k) || decide (k∈r))=decide (k∈x::r)
  by_cases e:k=x
  ·subst e;simp
  ·have:(x == k)=false:=by simp;exact fun z=>e z.symm
   rw [this];simp [e]
theorem afX (ks:List Int):(ks.map V.int).all uI=true:=by
 rw [ab8]
 intro x m
 obtain ⟨z,_,rfl⟩:=jV.mp m
 rfl
/-- the different things that came,k behind them -/
noncomputable def came (C:List Int) (k:Int):List Int:=if k∈C then C else C++[k]
theorem afY (C:List Int) (k:Int):C.length<=(came C k).length/\(came C k).length<=C.length+1:=by
 unfold came
 split
 ·lia
 ·rw [dh];show C.length<=C.length+1/\_;exact ⟨by lia,bV _⟩
theorem ahu {w:Int}:(up w C).length<=(up w (came C k)).length:=by
 unfold came
 split
 ·exact bV _
 ·unfold up;rw [tX,dh];lia
/-- a level v of the different things C: the least that will do -/
noncomputable def vf (r v:Int) (C:List Int):Prop:=0<=v/\((up v C).length:Int)<=r/\∀ w,0<=w->w<v->r<((up w C).length:Int)
theorem vf.lvl {v':Int} (h:vf r v C) (g:Lvl r v v' D) (hm:∀ w,(up w C).length<=(up w D).length):vf r v' D:=by
 have:=h.1
 have:=g.1
 refine ⟨by lia,g.2.1,fun w a b=>?_⟩
 rcases (show w<v\/v<=w by lia) with z | z
 ·have:=h.2.2 w a z;have:=hm w;lia
 ·exact g.2.2 w z b
theorem vf.le (h:vf r v C) (r0:0<=r):v<=61:=Lvl.le (ks:=C) (v:=0) ⟨h.1,h.2.1,h.2.2⟩ r0 (by decide)
noncomputable def akv (A:Ad):Sp:=fun vs H Q _=>∃ (p dx l:Addr) (r n v k:Int) (C:List Int),vs=[.ref p,.int k]/\Dn A H p dx l r n v (srt (up v C))/\vf r v C/\C.length<=800/\0<=r/\r<=800 /\
 ∀ (l':Addr) (v':Int) (H':Hp),Lvl r v v' (came C k)->Dn A H' p dx l' r (n+1) v' (srt (up v' (came C k)))->But p H H'->(l'=l\/H l'=none)->Q .non H'
theorem ok'19 (T:Tx K mg A):cY P w K mg base CX0 5 A.VR A.nT ["self","thing"] (akv A):=by
 k_dat (T.F'19.ok,Eh) "a"
 ·obtain ⟨p,dx,l,r,n,v,k,C,rfl,_⟩:=h
  rfl
 ·obtain ⟨p,dx,l,r,n,v,k,C,rfl,hd,hL,h8,r0,r8,q⟩:=h
  have v0:=hL.1
  have v61:=hL.le r0
  have hlen:(srt (up v C)).length<=800:=by have:=hL.2.1;rw [fZ];lia
  refine ⟨_,(aq (aU (pv 0) (aJ bW (aC (pv 0) rfl) aA) rfl)
   (aF (d9 (PW.pt (pw_and (aR aei (bB (ah6 T) tb_g% rfl T.afE T.F'15.kp T.b'15 .nil bG (ao (pv 1) aB)) (aC (pv 0) rfl) (aX _)) (pw_and1 (aR (ajS (bN hr)) (pv 1) (aC (pv 0) rfl) (by with_unfolding_all rfl))))) (aF (cR (dW (pv 0) T.fJ T.pG (ah9 T) tb_g% T.b'18 .nil bG (ao (aJ yd (aC (pv 0) rfl) (gG (ao (pv 1) aB))) aB)))) cQ))),?_⟩
  refine ⟨_,rfl,rdF hd.o T.fJ T.Dr (vd _ _ _ _) ⟨_,_,rfl,rfl,_,rfl,p,_,dx,_,rfl,hd.o,T.fJ,T.Dr,(by show 4<1000;decide),?_⟩⟩
  rw [tL]
  have b1:But p H (upd H p (.ins A.gK dx (df (.int r) (.int (n+1)) (.int v) (.ref l)))):=But.upd
  have d1:Dn A (upd H p (.ins A.gK dx (df (.int r) (.int (n+1)) (.int v) (.ref l)))) p dx l r (n+1) v (srt (up v C)):=⟨aj,by rw [au (jg hd.l hd.o (by intro z;cases z))];exact hd.l⟩
  generalize upd H p (.ins A.gK dx (df (.int r) (.int (n+1)) (.int v) (.ref l)))=H1 at b1 d1 ⊢
  refine ⟨_,rfl,k,rfl,fun h hh=>⟨_,rfl,rdF d1.o T.fJ T.uO (oJ _ _ _ _) ⟨_,_,rfl,rfl,_,rfl,eF (fun hc=>?_) (fun hc=>?_)⟩⟩⟩
  ·have hc:v<=(h:Int):=of_decide_eq_true hc
   rw [mk_eq hh] at hc
   refine ⟨_,rfl,_,rfl,rdF d1.o T.fJ T.zU (Af _ _ _ _) (.inl ⟨l,_,rfl,.inl (.inl (.inl d1.l)),rfl,afX _,_,rfl,?_⟩)⟩
   rw [if_pos rfl,afW]
   by_cases m:k∈srt (up v C)
   ·rw [decide_eq_true m]
    have ec:came C k=C:=by unfold came;rw [if_pos (oK.mp (pC.mp m)).1]
    rw [ec] at q
    exact zp (q l v _ ⟨cP _,hL.2.1,fun w a b=>by lia⟩ d1 b1 (.inl rfl))
   ·rw [decide_eq_false m]
    have hk:k∉C:=fun z=>m (pC.mpr (oK.mpr ⟨z,hc⟩))
    have ec:came C k=C++[k]:=by unfold came;rw [if_neg hk]
    have eu:∀ w,v<=w->up w (srt (up v C)++[k])=up w (srt (up v C))++up w [k]:=fun w _=>by unfold up;rw [tX]
    refine Ea ⟨_,rfl,p,dx,_,rfl,d1.o,afV _ _ _ _ tb_g% tb_g% tb_g% tb_g%,?_⟩
    refine ⟨_,rfl,rdF d1.o T.fJ T.zU (Af _ _ _ _) ⟨_,rfl,(by show 1<=sizeLine;decide),fun l1 hl1=>?_⟩⟩
    have s2:Same H1 (upd H1 l1 (.lst [.int k])):=Same.new hl1
    refine ⟨l,l1,_,_,rfl,rfl,s2 _ _ d1.l,aj,mH (cL (by rw [bA];show (srt (up v C)).length+1<=1000;lia)),fun l2 hl2=>?_⟩
    have s3:Same H1 (upd (upd H1 l1 (.lst [.int k])) l2 (.lst ((srt (up v C)++[k]).map V.int))):=s2.trans (Same.new hl2)
    have f3:(upd (upd H1 l1 (.lst [.int k])) l2 (.lst ((srt (up v C)++[k]).map V.int))) l2=some (.lst ((srt (up v C)++[k]).map V.int)):=aj
    rw [show (srt (up v C)).map V.int++[V.int k]=(srt (up v C)++[k]).map V.int by rw [dN];rfl]
    generalize upd (upd H1 l1 (.lst [.int k])) l2 (.lst ((srt (up v C)++[k]).map V.int))=H3 at s3 f3 ⊢
    have d3:=d1.same s3
    have pm:(srt (up v C)++[k]).Perm (up v (C++[k])):=by
     have:up v (C++[k])=up v C++[k]:=by unfold up;rw [tX];simp [hc]
     rw [this]
     exact (gZ _).append_right _
    refine ⟨p,dx,l2,l,r,n+1,v,_,rfl,d3.o,f3,by rw [dh];show (srt (up v C)).length+1<=900;lia,r0,v0,v61,(fun z hz=>(oK.mp (pm.mem_iff.mp hz)).2),fun l' v' H' lv dn bt nl=>?_⟩
    have el:∀ w,v<=w->(up w (srt (up v C)++[k])).length=(up w (C++[k])).length:=fun w hw=>(pm.filter _).length_eq.trans (congrArg jG (ZR hw _))
    have nl1:H1 l'=none:=s3.free nl
    have nl0:H l'=none:=cW b1 nl1 fun z=>by rw [z,d1.o] at nl1;cases nl1
    refine q l' v' H' ?_ ?_ (fun b o e m'=>bt b o (s3 _ _ (b1 b o e m')) m') (.inr nl0)
    ·rw [ec]
     exact ⟨lv.1,by rw [<- el _ lv.1];exact lv.2.1,fun w a b=>by rw [<- el _ a];exact lv.2.2 w a b⟩
    ·rw [ec]
     have:up v' (srt (srt (up v C)++[k]))=srt (up v' (C++[k])):=by
      rw [KZ pm,Yw,ZR lv.1]
     rw [this] at dn
     exact dn
  ·have hc:¬ v<=(h:Int):=fun z=>hc (decide_eq_true z)
   rw [mk_eq hh] at hc
   have ew:∀ w,v<=w->up w (came C k)=up w C:=fun w hw=>by
    unfold came
    split
    ·rfl
    ·unfold up;rw [tX];simp [show ¬ w<=mkOf k by lia]
   refine zp (q l v _ ⟨cP _,by rw [ew v (cP _)];exact hL.2.1,fun w a b=>by lia⟩ ?_ b1 (.inl rfl))
   rw [ew v (cP _)];exact d1
noncomputable def fl (r t l:Int) (d:Addr):List (Str × V):=[("room",.int r),("total",.int t),("lost",.int l),("counts",.ref d)]
theorem vN (r t l:Int) (d:Addr):(fl r t l d).lookup ("room" : Str)=some (.int r):=by rfl
theorem Ah (r t l:Int) (d:Addr):(fl r t l d).lookup ("total" : Str)=some (.int t):=by rfl
theorem Ai (r t l:Int) (d:Addr):(fl r t l d).lookup ("lost" : Str)=some (.int l):=by rfl
theorem vO (r t l:Int) (d:Addr):(fl r t l d).lookup ("counts" : Str)=some (.ref d):=by rfl
theorem ne1:¬ (("room" : Str) = "total"):=by decide +kernel
theorem ne2:¬ (("room" : Str) = "lost"):=by decide +kernel
theorem ne3:¬ (("room" : Str) = "counts"):=by decide +kernel
theorem ne4:¬ (("total" : Str) = "lost"):=by decide +kernel
theorem ne5:¬ (("total" : Str) = "counts"):=by decide +kernel
theorem ne6:¬ (("lost" : Str) = "counts"):=by decide +kernel
theorem Qa (f:Str) (v:V) (r:List (Str × V)) (u:V):bU f v ((f,u)::r)=(f,v)::r:=by unfold bU;rw [if_pos rfl]
theorem jq {f g:Str} (h:¬ g=f) (v:V) (r:List (Str × V)) (u:V):bU f v ((g,u)::r)=(g,u)::bU f v r:=by rw [bU,if_neg h]
theorem akx (r t l:Int) (d:Addr):bU "counts" (.ref d) (bU "lost" (.int l) (bU "total" (.int t) (bU "room" (.int r) [])))=fl r t l d:=by
 unfold fl
 rw [show bU "room" (.int r) []=[(("room" : Str),V.int r)] from rfl,jq ne1,show bU "total" (.int t) []=[(("total" : Str),V.int t)] from rfl,jq ne2,jq ne4,
  show bU "lost" (.int l) []=[(("lost" : Str),V.int l)] from rfl,jq ne3,jq ne5,jq ne6]
 rfl
theorem ZW (r t l y:Int) (d:Addr):bU "total" (.int y) (fl r t l d)=fl r y l d:=by
 unfold fl;rw [jq ne1,Qa]
theorem ZX (r t l y:Int) (d:Addr):bU "lost" (.int y) (fl r t l d)=fl r t y d:=by
 unfold fl;rw [jq ne2,jq ne4,Qa]
theorem ahv (r t l:Int) (d e:Addr):bU "counts" (.ref e) (fl r t l d)=fl r t l e:=by
 unfold fl;rw [jq ne3,jq ne5,jq ne6,Qa]
theorem EY {f:Str} {v:V} {r:List (Str × V)} (h:¬ m=f):((f,v)::r).lookup m=r.lookup m:=by
 rw [Ua]
 rw [beq_eq_false_iff_ne.mpr h]
theorem Z0 (r t l:Int) (d:Addr) (h1:¬ m = "room") (h2:¬ m = "total") (h3:¬ m = "lost") (h4:¬ m = "counts"):(fl r t l d).lookup m=none:=by
 unfold fl
 rw [EY h1,EY h2,EY h3,EY h4]
 rfl
noncomputable def aky (A:Ad):Sp:=fun vs H Q _=>∃ (p dx:Addr) (r:Int),vs=[.ref p,.int r]/\H p=some (.ins A.gY dx []) /\
 ∀ (d:Addr) (H':Hp),H d=none->H' p=some (.ins A.gY dx (fl r 0 0 d))->H' d=some (.dK (emb []))->But p H H'->Q .non H'
theorem afZ (T:Tx K mg A):cY P w K mg base CX0 1 A.Qg A.mj ["self","room"] (aky A):=by
 k_dat (T.F'20.ok,CJ) "a"
 ·obtain ⟨p,dx,r,rfl,_⟩:=h
  rfl
 ·obtain ⟨p,dx,r,rfl,hp,k⟩:=h
  refine ⟨_,(aq (aU (pv 0) (pv 1) rfl)
   (aq (aU (pv 0) aA rfl)
   (aq (aU (pv 0) aA rfl)
   (aF (aU (pv 0) QL rfl))))),?_⟩
  refine ⟨_,rfl,_,rfl,p,_,dx,[],rfl,hp,T.fK,T.zV,(by show 0<1000;decide),?_⟩
  k_dat (p,dx,aj,T.fK,T.zW,1) "e"
  k_dat (p,dx,aj,T.fK,T.wD,2) "e"
  rw [cJ,cJ]
  intro d hd
  have npd:p≠d:=fun z=>by rw [<- z,aj] at hd;cases hd
  rw [au (aK npd)] at hd
  refine ⟨_,rfl,p,_,dx,_,rfl,(by rw [au npd];exact aj),T.fK,T.Ds,(by show 3<1000;decide),?_⟩
  refine k d _ hd (GC aj (by rw [akx])) (by rw [au (aK npd),aj];rfl) fun b o e hb=>?_
  rw [au hb,au (ak e hd),au hb]
  exact e
/-- the cut of the counts c -/
noncomputable def K6 (room:Nat) (c:Tab) (cut:Int):Prop:=if c.length<=room then cut=0 else IsCut room c cut
theorem K6.akz {cut:Int} (h:K6 room c cut) (hp:∀ p∈c,1<=p.2):lW room c (dD c cut) cut:=by
 unfold K6 at h;unfold lW
 by_cases e:c.length<=room
 ·rw [if_pos e] at h ⊢; exact ⟨h,by rw [h,aeL hp]⟩
 ·rw [if_neg e] at h ⊢; exact ⟨h,rfl⟩
noncomputable def spCut:Sp:=fun vs H Q _=>∃ (g:Addr) (c:Tab) (room:Nat),vs=[.ref g,.int room]/\H g=some (.dK (emb c))/\c.length<1000/\∀ (cut:Int) (H':Hp),K6 room c cut->Same H H'->Q (.int cut) H'
theorem ok'21 (T:Tx K mg A):cY P w K mg base CX0 1 A.V0 A.Ij ["counts","room"] spCut:=by
 k_dat (T.F'21.ok,KN) "a"
 ·obtain ⟨g,c,room,rfl,_⟩:=h
  rfl
 ·obtain ⟨g,c,room,rfl,hg,h64,q⟩:=h
  refine ⟨_,(aq (d9 (aR JX (bF cD (by rfl) T.g8 gQ (ao (pv 0) aB)) (pv 1) (aX _)) (aF (cC aA)) cQ)
   (aq (aV (i:=2) KN.nd rfl (Or.inl rfl) (aaw T.oE (pv 0) ⟨rfl,rfl⟩ rfl))
   (aF (cC (cI (ixG (bN hr)) (pv 2) (pv 1) (fun _ _=>rfl)))))),?_⟩
  refine ⟨_,rfl,ajW (.inl hg) ⟨_,rfl,_,_,rfl,rfl,_,rfl,eF (fun h=>?_) (fun h=>?_)⟩⟩
  ·have h':((emb c).length:Int)<=room:=of_decide_eq_true h
   rw [rG] at h'
   exact q 0 H (by unfold K6;rw [if_pos tb_g%]) (Same.refl H)
  ·have h':¬ ((emb c).length:Int)<=room:=fun z=>h (decide_eq_true z)
   rw [rG] at h'
   refine ⟨_,rfl,g,emb c,vals c,rfl,.inl hg,QW c,(by unfold vals;rw [bA];exact h64),fun l d hl hp hs=>?_⟩
   have hlen:d.length=c.length:=by rw [hp.length_eq];unfold vals;rw [bA]
   have e:d[room]? = some d[room]:=gR tb_g%
   refine ⟨_,rfl,_,rfl,dO (.inl (.inl aj)) (v:=.int d[room]) (gO (by rw [iB,e];rfl)) (q _ _ ?_ (Same.new hl))⟩
   unfold K6
   rw [if_neg tb_g%]
   exact ⟨d,hp,hs,e⟩
noncomputable def aa0:Sp:=fun vs H Q _=>∃ (g:Addr) (c:Tab) (cut:Int),vs=[.ref g,.int cut]/\H g=some (.dK (emb c))/\(keys c).Nodup/\c.length<=1000 /\
 ∀ (d:Addr) (H':Hp),H d=none->H' d=some (.dK (emb (dD c cut)))->Same H H'->Q (.ref d) H'
theorem R5 (c:Tab) (p:Int × Int) (cut:Int):dD (c++[p]) cut=if cut<p.2 then dD c cut++[(p.1,p.2-cut)] else dD c cut:=by
 unfold dD
 rw [tX,dN]
 by_cases h:cut<p.2
 ·rw [if_pos h];simp [h]
 ·rw [if_neg h];simp [h]
theorem take_snoc (h:c[i]? = some p):c.take (i+1)=c.take i++[p]:=by
 rw [vY,h];rfl
theorem ahw {cut:Int} (hn:(keys c).Nodup) (h:c[i]? = some p) (hc:cut<p.2):put (dD (c.take i) cut) p.1 (p.2-cut)=dD (c.take (i+1)) cut:=by
 rw [take_snoc h,R5,if_pos hc]
 refine Es fun z=>?_
 have z1:=O1 z
 have e:keys (c.take (i+1))=keys (c.take i)++[p.1]:=by rw [take_snoc h];unfold keys;rw [dN];rfl
 have hn':(keys (c.take (i+1))).Nodup:=adT (adW _ (T6 _ _)) hn
 rw [e,T7] at hn'
 exact hn'.2.2 p.1 z1 p.1 (by simp) rfl
theorem ok'22 (T:Tx K mg A):cY P w K mg base CX0 1 A.V1 A.Cw ["counts","cut"] aa0:=by
 k_dat (T.F'22.ok,sI) "a"
 ·obtain ⟨g,c,cut,rfl,_⟩:=h
  rfl
 ·obtain ⟨g,c,cut,rfl,hg,hn,hl,q⟩:=h
  refine ⟨_,(aq (aV (i:=2) sI.nd rfl (Or.inl rfl) QL)
   (aq (Zh oX rfl (pv 0) ⟨rfl,rfl⟩ (Xj rfl (qD (gM (i:=3) sI.nd rfl (Or.inl rfl)) (qD (gM (i:=4) sI.nd rfl (Or.inl rfl)) Og))) (aF (d9 (aR v8 (pv 4) (pv 1) (aX _)) (aF (rD (aJ xY (pv 4) (pv 1)) (rC (pv 2) (pv 3) (setG (bN hr))))) cQ)))
   (aF (cC (pv 2))))),?_⟩
  intro d hd
  have ngd:g≠d:=ak hg hd
  have hg1:(upd H d (.dK [])) g=some (.dK (emb c)):=by rw [au ngd];exact hg
  refine ⟨_,rfl,g,emb c,rfl,hg1,fun o wm=>Ke (fun i σ H2=>∃ (x y:Option V),σ=[some (.ref g),some (.int cut),some (.ref d),x,y]/\H2 g=some (.frz o (.dK (emb c)))/\H2 d=some (.dK (emb (dD (c.take i) cut)))/\(∀ b u,H b=some u->b≠g->H2 b=some u))
   ⟨none,none,rfl,aj,by rw [au (aK ngd),aj];rfl,fun b u e hb=>by rw [au hb,au (ak e hd)];exact e⟩ (fun i σ H2 ⟨_,_,_,h,_⟩=>h) ?_ ?_⟩
  ·rintro i p t σ H2 hi ⟨x,y,rfl,f1,f2,f3⟩ ht
   obtain ⟨pr,hpr,rfl⟩:=aeN hi
   have ngt:g≠t:=ak f1 ht
   have ndt:d≠t:=ak f2 ht
   have f1':(upd H2 t (.tup [.int pr.1,.int pr.2])) g=some (.frz o (.dK (emb c))):=by rw [au ngt];exact f1
   have f2':(upd H2 t (.tup [.int pr.1,.int pr.2])) d=some (.dK (emb (dD (c.take i) cut))):=by rw [au ndt];exact f2
   have f3':∀ b u,H b=some u->b≠g->(upd H2 t (.tup [.int pr.1,.int pr.2])) b=some u:=fun b u e hb=>by
    have:=f3 b u e hb
    rw [au (ak this ht)];exact this
   refine ⟨t,_,rfl,.inl (.inl aj),rfl,_,_,rfl,_,_,rfl,rfl,?_⟩
   refine ⟨_,rfl,_,rfl,_,_,rfl,rfl,_,rfl,eF (fun h=>?_) (fun h=>?_)⟩
   ·have hc:cut<pr.2:=of_decide_eq_true h
    have hz:(emb (dD (c.take i) cut)).length<sizeLine:=by
     rw [rG]
     have:=agD (c.take i) cut
     rw [gJ] at this
     exact cL tb_g%
    refine ⟨_,rfl,_,rfl,_,_,rfl,rfl,_,rfl,_,rfl,XM f2' hz ?_⟩
    rw [Hv,ahw hn hpr hc]
    refine ⟨_,_,rfl,by rw [au ngd];exact f1',aj,fun b u e hb=>?_⟩
    have nb:b≠d:=ak e hd
    rw [au nb];exact f3' b u e hb
   ·have hc:¬ cut<pr.2:=fun z=>h (decide_eq_true z)
    refine ⟨_,_,rfl,f1',?_,f3'⟩
    rw [take_snoc hpr,R5,if_neg hc];exact f2'
  ·rintro σ H2 ⟨x,y,rfl,f1,f2,f3⟩
   rw [rG,qT] at f2
   refine ⟨g,emb c,o,wm,f1,_,rfl,q d _ hd ?_ fun b u e=>?_⟩
   ·rw [au (aK ngd)];exact f2
   ·by_cases hb:b=g
    ·subst hb;rw [aj,<- e,hg]
    ·rw [au hb];exact f3 b u e hb
noncomputable def spFit (A:Ad):Sp:=fun vs H Q _=>∃ (p dx g d:Addr) (room:Nat) (t l:Int) (c:Tab),vs=[.ref p,.ref g]/\H p=some (.ins A.gY dx (fl room t l d))/\H g=some (.dK (emb c))/\(keys c).Nodup/\(∀ p∈c,1<=p.2)/\c.length<1000 /\
 ∀ (d':Addr) (c':Tab) (cut:Int) (H':Hp),H d'=none->lW room c c' cut->H' p=some (.ins A.gY dx (fl room t (l+cut) d'))->H' d'=some (.dK (emb c'))->But p H H'->Q .non H'
theorem aia (T:Tx K mg A):cY P w K mg base CX0 2 A.V2 A.nU ["self","grown"] (spFit A):=by
 k_dat (T.F'23.ok,tG) "a"
 ·obtain ⟨p,dx,g,d,room,t,l,c,rfl,_⟩:=h
  rfl
 ·obtain ⟨p,dx,g,d,room,t,l,c,rfl,hp,hg,hn,pos,h64,q⟩:=h
  refine ⟨_,(aq (aV (i:=2) tG.nd rfl (Or.inl rfl) (bB (ok'21 T) tb_g% rfl T.afF T.F'21.kp T.b'21 .nil bG (ao (pv 1) (ao (aC (pv 0) rfl) aB))))
   (aq (aU (pv 0) (bB (ok'22 T) tb_g% rfl T.aaT T.F'22.kp T.b'22 .nil bG (ao (pv 1) (ao (pv 2) aB))) rfl)
   (aF (aU (pv 0) (aJ bW (aC (pv 0) rfl) (pv 2)) rfl)))),?_⟩
  refine ⟨_,rfl,_,rfl,rdF hp T.fK T.zV (vN _ _ _ _) ⟨g,c,room,rfl,hg,h64,fun cut H1 hc s1=>?_⟩⟩
  refine ⟨_,rfl,_,rfl,g,c,cut,rfl,s1 _ _ hg,hn,by lia,fun d' H2 hd' e2 s2=>?_⟩
  have hp2:=s2 _ _ (s1 _ _ hp)
  have npd:p≠d':=ak (s1 _ _ hp) hd'
  k_dat (p,dx,hp2,T.fK,T.Ds,4) "e"
  rw [ahv]
  refine ⟨_,rfl,rdF aj T.fK T.wD (Ai _ _ _ _) ⟨_,rfl,_,_,rfl,rfl,_,rfl,p,_,dx,_,rfl,aj,T.fK,T.wD,(by show 4<1000;decide),?_⟩⟩
  rw [ZX,cJ]
  refine q d' (dD c cut) cut _ (s1.free hd') (hc.akz pos) aj (by rw [au (aK npd)];exact e2) fun b o e hb=>?_
  rw [au hb];exact s2 _ _ (s1 _ _ e)
noncomputable def spAdd (A:Ad):Sp:=fun vs H Q _=>∃ (p dx d:Addr) (room:Nat) (t l k v:Int) (c:Tab),vs=[.ref p,.int k,.int v]/\H p=some (.ins A.gY dx (fl room t l d))/\H d=some (.dK (emb c))/\(keys c).Nodup/\(∀ p∈c,1<=p.2)/\1<=v/\c.length<999 /\
 ∀ (d':Addr) (c':Tab) (cut:Int) (H':Hp),H d'=none->lW room (put c k (low c k+v)) c' cut->H' p=some (.ins A.gY dx (fl room (t+v) (l+cut) d'))->H' d'=some (.dK (emb c'))->But p H H'->Q .non H'
theorem aib (T:Tx K mg A):cY P w K mg base CX0 3 A.V3 A.nY ["self","thing","weight"] (spAdd A):=by
 k_dat (T.F'24.ok,tH) "a"
 ·obtain ⟨p,dx,d,room,t,l,k,v,c,rfl,_⟩:=h
  rfl
 ·obtain ⟨p,dx,d,room,t,l,k,v,c,rfl,hp,hd,hn,pos,hv,h63,q⟩:=h
  have npd:p≠d:=jg hp hd (by intro z;cases z)
  refine ⟨_,(aq (aU (pv 0) (aJ bW (aC (pv 0) rfl) (pv 2)) rfl)
   (aq (aV (i:=3) tH.nd rfl (Or.inl rfl) (mU Hl (by rfl) T.afK acV (ao (aC (pv 0) rfl) aB)))
   (aq (rD (aJ bW (QM (bN hr) (pv 3) (pv 1) aA ⟨rfl,rfl,rfl,rfl⟩) (pv 2)) (rC (pv 3) (pv 1) (setG (bN hr))))
   (aF (cR (dW (pv 0) T.fK T.uR (aia T) tb_g% T.b'23 .nil bG (ao (pv 3) aB))))))),?_⟩
  refine ⟨_,rfl,rdF hp T.fK T.zW (Ah _ _ _ _) ⟨_,rfl,_,_,rfl,rfl,_,rfl,p,_,dx,_,rfl,hp,T.fK,T.zW,(by show 4<1000;decide),?_⟩⟩
  rw [ZW]
  have hd1:(upd H p (.ins A.gY dx (fl room (t+v) l d))) d=some (.dK (emb c)):=by rw [au (aK npd)];exact hd
  refine ⟨_,rfl,rdF aj T.fK T.Ds (vO _ _ _ _) ⟨d,emb c,rfl,.inl hd1,fun g hg=>?_⟩⟩
  have ngp:p≠g:=fun z=>by rw [<- z,aj] at hg;cases hg
  have hg0:H g=none:=by rw [au (aK ngp)] at hg;exact hg
  refine ⟨_,rfl,g,rfl,.inl ⟨emb c,.inl aj⟩,_,rfl,_,ahR (.inl aj),?_⟩
  rw [Zn]
  refine ⟨_,rfl,_,_,rfl,rfl,_,rfl,_,rfl,XM aj (by rw [rG];exact cL tb_g%) ?_⟩
  rw [Hv,cJ]
  have hp2:∀ o,(upd (upd H p (.ins A.gY dx (fl room (t+v) l d))) g o) p=some (.ins A.gY dx (fl room (t+v) l d)):=fun o=>by rw [au ngp];exact aj
  refine ⟨_,rfl,p,dx,_,rfl,hp2 _,Z0 _ _ _ _ tb_g% tb_g% tb_g% tb_g%,_,rfl,p,dx,g,d,room,t+v,l,_,rfl,hp2 _,aj,Oz hn _ _,OJ pos (by have:=rF pos k;lia),?_,fun d' c' cut H' e1 e2 e3 e4 e5=>?_⟩
  ·have:=Zj c k (low c k+v);lia
  ·have ngd:g≠d':=fun z=>by rw [<- z,aj] at e1;cases e1
   have npd':p≠d':=fun z=>by rw [<- z,hp2] at e1;cases e1
   rw [au (aK ngd),au (aK npd')] at e1
   refine q d' c' cut H' e1 e2 e3 e4 fun b o e hb=>e5 b o ?_ hb
   rw [au (ak e hg0),au hb];exact e
noncomputable def bf (aY kW:V):List (Str × V):=[("span",aY),("sums",kW)]
theorem Aj (aY kW:V):(bf aY kW).lookup ("span" : Str)=some aY:=by rfl
theorem Fb (aY kW:V):(bf aY kW).lookup ("sums" : Str)=some kW:=by rfl
theorem akA (aY kW:V):bU "sums" kW (bU "span" aY [])=bf aY kW:=by
 unfold bf
 walk_at "rec"
theorem vg (aY kW y:V):bU "sums" y (bf aY kW)=bf aY y:=by
 unfold bf
 walk_at "rec"
theorem aic (aY kW:V) (Yx:¬ m = "span") (akB:¬ m = "sums"):(bf aY kW).lookup m=none:=by
 unfold bf
 rw [cV Yx,cV akB]
 rfl
structure Q4 where
 a:Int
 b:Int
 c:Int
 d:Int
noncomputable def L4 (q:Q4):List Int:=[q.a,q.b,q.c,q.d]
noncomputable def addQ (q p:Q4):Q4:=⟨q.a+p.a,q.b+p.b,q.c+p.c,q.d+p.d⟩
noncomputable def pwQ (t w:Int):Q4:=⟨w,w*t,w*t*t,w*t*t*t⟩
noncomputable def Z1:Q4:=⟨0,0,0,0⟩
noncomputable def af0 (t w:Int):Nat->Int
 | 0=>w
 | n+1=>af0 t w n*t
/-- a Balance -/
structure Bn (A:Ad) (H:Hp) (p dx l:Addr) (s:Int) (q:Q4):Prop where
 o:H p=some (.ins A.qx dx (bf (.int s) (.ref l)))
 l:H l=some (.lst ((L4 q).map V.int))
theorem Bn.same {p:Addr} {s:Int} {q:Q4} (h:Bn A H p dx l s q) (z:Same H H'):Bn A H' p dx l s q:=⟨z _ _ h.o,z _ _ h.l⟩
theorem Bn.but {p x C:Addr} {fs:List (Str × V)} {s:Int} {q:Q4} (h:Bn A H p dx l s q) (z:But x H H') (hq:H x=some (.ins C e fs)) (m:p≠x):Bn A H' p dx l s q:=⟨z _ _ h.o m,z _ _ h.l (jg h.l hq (by intro z;cases z))⟩
noncomputable def aa1:Sp:=fun vs H Q _=>∃ (l:Addr) (t w:Int) (q:Q4),vs=[.ref l,.int t,.int w]/\H l=some (.lst ((L4 q).map V.int))/\0<=t/\t<2 ^ 64/\∀ (l':Addr) (H':Hp),H l'=none->H' l'=some (.lst ((L4 (addQ q (pwQ t w))).map V.int))->Same H H'->Q (.ref l') H'
theorem kY {q:Q4} {x:V} (h:((L4 q).map V.int)[i]? = some x):(i=0/\x = .int q.a)\/(i=1/\x = .int q.b)\/(i=2/\x = .int q.c)\/(i=3/\x = .int q.d):=by
 match i,h with
 | 0,h=>exact .inl ⟨rfl,(dB h).symm⟩
 | 1,h=>exact .inr (.inl ⟨rfl,(dB h).symm⟩)
 | 2,h=>exact .inr (.inr (.inl ⟨rfl,(dB h).symm⟩))
 | 3,h=>exact .inr (.inr (.inr ⟨rfl,(dB h).symm⟩))
 | n+4,h=>simp [L4] at h
theorem aie (T:Tx K mg A):cY P w K mg base CX0 1 A.V4 A.yC ["sums","thing","weight"] aa1:=by
 k_dat (T.F'25.ok,lN) "a"
 ·obtain ⟨l,t,w,q,rfl,_⟩:=h
  rfl
 ·obtain ⟨l,t,w,q,rfl,hl,t0,t1,k⟩:=h
  refine ⟨_,(aq (aV (i:=3) lN.nd rfl (Or.inl rfl) (gG aB))
   (aq (aV (i:=4) lN.nd rfl (Or.inl rfl) (pv 2))
   (aq (rE oX rfl (pq (pv 0)) (gM (i:=5) lN.nd rfl (Or.inl rfl)) (aq (cR (Ka BK Bx BJ jE (pv 3) (ao (aJ bW (pv 5) (pv 4)) aB)))
   (aF (aV (i:=4) lN.nd rfl (Or.inl rfl) (aJ jc (pv 4) (pv 1))))))
   (aF (cC (pv 3)))))),?_⟩
  refine ⟨(by show 0<=sizeLine;decide),fun D hD=>?_⟩
  refine ⟨_,rfl,?_⟩
  have sD:Same H (upd H D (.lst [])):=Same.new hD
  refine ⟨_,rfl,l,rfl,⟨_,.inl (.inl (sD _ _ hl))⟩,GZ (K:=K) (a:=l) (xs:=(L4 q).map V.int) (fun i σ H2=>∃ x,σ=[some (.ref l),some (.int t),some (.int w),some (.ref D),some (.int (af0 t w i)),x]/\H2 D=some (.lst (((L4 (addQ q (pwQ t w))).take i).map V.int))/\Same H H2) ⟨none,rfl,aj,sD⟩ (fun i σ H2 _ ⟨_,_,_,s⟩=>.inl (.inl (s _ _ hl))) ?_ ?_⟩
  ·rintro i y σ H2 hi ⟨x,rfl,f,s2⟩
   have hz:∀ n:Nat,n<=4->(((L4 (addQ q (pwQ t w))).take n).map V.int).length<sizeLine:=fun n hn=>cL (by rw [bA,gJ];lia)
   have keep:∀ L b o,H b=some o->(upd H2 D L) b=some o:=fun L b o e=>by rw [au (ak e hD)];exact s2 _ _ e
   rcases kY hi with ⟨rfl,rfl⟩ | ⟨rfl,rfl⟩ | ⟨rfl,rfl⟩ | ⟨rfl,rfl⟩
   ·refine ⟨_,rfl,.inl ⟨rfl,_,.inl (.inl f)⟩,_,rfl,_,rfl,_,_,rfl,rfl,D,_,_,rfl,rfl,f,hz 0 (by decide),?_⟩
    exact ⟨_,rfl,_,rfl,_,_,rfl,rfl,fB tb_g% t1,_,rfl,aj,keep _⟩
   ·refine ⟨_,rfl,.inl ⟨rfl,_,.inl (.inl f)⟩,_,rfl,_,rfl,_,_,rfl,rfl,D,_,_,rfl,rfl,f,hz 1 (by decide),?_⟩
    exact ⟨_,rfl,_,rfl,_,_,rfl,rfl,fB tb_g% t1,_,rfl,aj,keep _⟩
   ·refine ⟨_,rfl,.inl ⟨rfl,_,.inl (.inl f)⟩,_,rfl,_,rfl,_,_,rfl,rfl,D,_,_,rfl,rfl,f,hz 2 (by decide),?_⟩
    exact ⟨_,rfl,_,rfl,_,_,rfl,rfl,fB tb_g% t1,_,rfl,aj,keep _⟩
   ·refine ⟨_,rfl,.inl ⟨rfl,_,.inl (.inl f)⟩,_,rfl,_,rfl,_,_,rfl,rfl,D,_,_,rfl,rfl,f,hz 3 (by decide),?_⟩
    exact ⟨_,rfl,_,rfl,_,_,rfl,rfl,fB tb_g% t1,_,rfl,aj,keep _⟩
  ·rintro σ H2 ⟨x,rfl,f,s2⟩
   exact ⟨_,rfl,k D H2 hD f s2⟩
noncomputable def ahx (A:Ad):Sp:=fun vs H Q _=>∃ (p dx:Addr) (s:Int),vs=[.ref p,.int s]/\H p=some (.ins A.qx dx [])/\∀ (d:Addr) (H':Hp),H d=none->Bn A H' p dx d s Z1->But p H H'->Q .non H'
theorem aif (T:Tx K mg A):cY P w K mg base CX0 1 A.Qh A.nZ ["self","span"] (ahx A):=by
 k_dat (T.F'26.ok,Ei) "a"
 ·obtain ⟨p,dx,s,rfl,_⟩:=h
  rfl
 ·obtain ⟨p,dx,sp,rfl,hp,q⟩:=h
  refine ⟨_,(aq (aU (pv 0) (pv 1) rfl)
   (aF (aU (pv 0) (gG (ao aA (ao aA (ao aA (ao aA aB))))) rfl))),?_⟩
  refine ⟨_,rfl,_,rfl,p,_,dx,[],rfl,hp,T.mL,T.Dt,(by show 0<1000;decide),?_⟩
  refine ⟨(by show 4<=sizeLine;decide),fun d hd=>?_⟩
  have npd:p≠d:=fun z=>by rw [<- z,aj] at hd;cases hd
  rw [au (aK npd)] at hd
  refine ⟨_,rfl,p,_,dx,_,rfl,(by rw [au npd];exact aj),T.mL,T.wF,(by show 1<1000;decide),?_⟩
  refine q d _ hd ⟨GC aj (by rw [akA]),by rw [au (aK npd),aj];rfl⟩ fun b o e hb=>?_
  rw [au hb,au (ak e hd),au hb]
  exact e
noncomputable def af2 (A:Ad) (sg:Bool):Sp:=fun vs H Q _=>∃ (p dx l:Addr) (s t w:Int) (q:Q4),vs=[.ref p,.int t,.int w]/\Bn A H p dx l s q/\0<=t/\t<2 ^ 64/\∀ (l':Addr) (H':Hp),Bn A H' p dx l' s (addQ q (pwQ t (if sg then -w else w)))->But p H H'->H l'=none->Q .non H'
theorem ok'27 (T:Tx K mg A):cY P w K mg base CX0 2 A.V5 A.qj ["self","thing","weight"] (af2 A false):=by
 k_dat (T.F'27.ok,Jf) "a"
 ·obtain ⟨p,dx,l,sp,t,w,q,rfl,_⟩:=h
  rfl
 ·obtain ⟨p,dx,l,sp,t,w,q,rfl,hb,t0,t1,k⟩:=h
  refine ⟨_,(aF (aU (pv 0) (bB (aie T) tb_g% rfl T.Iw T.F'25.kp T.b'25 .nil bG (ao (aC (pv 0) rfl) (ao (pv 1) (ao (pv 2) aB)))) rfl)),?_⟩
  refine ⟨_,rfl,rdF hb.o T.mL T.wF (Fb _ _) ⟨_,rfl,_,rfl,l,t,w,q,rfl,hb.l,t0,t1,fun l' H1 nl' f1 s1=>?_⟩⟩
  refine ⟨_,rfl,p,_,dx,_,rfl,s1 _ _ hb.o,T.mL,T.wF,(by show 2<1000;decide),?_⟩
  rw [vg]
  have npl:l'≠p:=aK (ak hb.o nl')
  exact k l' _ ⟨aj,by rw [au npl];exact f1⟩ (fun b o e m=>by rw [au m];exact s1 _ _ e) nl'
theorem ok'28 (T:Tx K mg A):cY P w K mg base CX0 2 A.V6 A.n8 ["self","thing","weight"] (af2 A true):=by
 k_dat (T.F'28.ok,Ej) "a"
 ·obtain ⟨p,dx,l,sp,t,w,q,rfl,_⟩:=h
  rfl
 ·obtain ⟨p,dx,l,sp,t,w,q,rfl,hb,t0,t1,k⟩:=h
  refine ⟨_,(aF (aU (pv 0) (bB (aie T) tb_g% rfl T.Iw T.F'25.kp T.b'25 .nil bG (ao (aC (pv 0) rfl) (ao (pv 1) (ao (aee Xo (pv 2)) aB)))) rfl)),?_⟩
  refine ⟨_,rfl,rdF hb.o T.mL T.wF (Fb _ _) ⟨_,rfl,_,rfl,_,rfl,l,t,-w,q,rfl,hb.l,t0,t1,fun l' H1 nl' f1 s1=>?_⟩⟩
  refine ⟨_,rfl,p,_,dx,_,rfl,s1 _ _ hb.o,T.mL,T.wF,(by show 2<1000;decide),?_⟩
  rw [vg]
  have npl:l'≠p:=aK (ak hb.o nl')
  exact k l' _ ⟨aj,by rw [au npl];exact f1⟩ (fun b o e m=>by rw [au m];exact s1 _ _ e) nl'
noncomputable def kf (aD aL aY bZ cg fY cj aQ cu aM:V):List (Str × V):=[("room",aD),("reach",aL),("span",aY),("came",bZ),("went",cg),("up",fY),("down",cj),("window",aQ),("seen",cu),("balance",aM)]
theorem vP (aD aL aY bZ cg fY cj aQ cu aM:V):(kf aD aL aY bZ cg fY cj aQ cu aM).lookup ("room" : Str)=some aD:=by rfl
theorem vh (aD aL aY bZ cg fY cj aQ cu aM:V):(kf aD aL aY bZ cg fY cj aQ cu aM).lookup ("reach" : Str)=some aL:=by rfl
theorem sS (aD aL aY bZ cg fY cj aQ cu aM:V):(kf aD aL aY bZ cg fY cj aQ cu aM).lookup ("span" : Str)=some aY:=by rfl
theorem Fd (aD aL aY bZ cg fY cj aQ cu aM:V):(kf aD aL aY bZ cg fY cj aQ cu aM).lookup ("came" : Str)=some bZ:=by rfl
theorem Fe (aD aL aY bZ cg fY cj aQ cu aM:V):(kf aD aL aY bZ cg fY cj aQ cu aM).lookup ("went" : Str)=some cg:=by rfl
theorem Z2 (aD aL aY bZ cg fY cj aQ cu aM:V):(kf aD aL aY bZ cg fY cj aQ cu aM).lookup ("up" : Str)=some fY:=by rfl
theorem Fg (aD aL aY bZ cg fY cj aQ cu aM:V):(kf aD aL aY bZ cg fY cj aQ cu aM).lookup ("down" : Str)=some cj:=by rfl
theorem kZ (aD aL aY bZ cg fY cj aQ cu aM:V):(kf aD aL aY bZ cg fY cj aQ cu aM).lookup ("window" : Str)=some aQ:=by rfl
theorem Fi (aD aL aY bZ cg fY cj aQ cu aM:V):(kf aD aL aY bZ cg fY cj aQ cu aM).lookup ("seen" : Str)=some cu:=by rfl
theorem sU (aD aL aY bZ cg fY cj aQ cu aM:V):(kf aD aL aY bZ cg fY cj aQ cu aM).lookup ("balance" : Str)=some aM:=by rfl
theorem akC (aD aL aY bZ cg fY cj aQ cu aM:V):bU "balance" aM (bU "seen" cu (bU "window" aQ (bU "down" cj (bU "up" fY (bU "went" cg (bU "came" bZ (bU "span" aY (bU "reach" aL (bU "room" aD [])))))))))=kf aD aL aY bZ cg fY cj aQ cu aM:=by
 unfold kf
 walk_at "rec"
theorem R6 (aD aL aY bZ cg fY cj aQ cu aM y:V):bU "came" y (kf aD aL aY bZ cg fY cj aQ cu aM)=kf aD aL aY y cg fY cj aQ cu aM:=by
 unfold kf
 walk_at "rec"
theorem R7 (aD aL aY bZ cg fY cj aQ cu aM y:V):bU "went" y (kf aD aL aY bZ cg fY cj aQ cu aM)=kf aD aL aY bZ y fY cj aQ cu aM:=by
 unfold kf
 walk_at "rec"
theorem aa2 (aD aL aY bZ cg fY cj aQ cu aM y:V):bU "up" y (kf aD aL aY bZ cg fY cj aQ cu aM)=kf aD aL aY bZ cg y cj aQ cu aM:=by
 unfold kf
 walk_at "rec"
theorem R9 (aD aL aY bZ cg fY cj aQ cu aM y:V):bU "down" y (kf aD aL aY bZ cg fY cj aQ cu aM)=kf aD aL aY bZ cg fY y aQ cu aM:=by
 unfold kf
 walk_at "rec"
theorem JH (aD aL aY bZ cg fY cj aQ cu aM y:V):bU "window" y (kf aD aL aY bZ cg fY cj aQ cu aM)=kf aD aL aY bZ cg fY cj y cu aM:=by
 unfold kf
 walk_at "rec"
theorem Sg (aD aL aY bZ cg fY cj aQ cu aM y:V):bU "seen" y (kf aD aL aY bZ cg fY cj aQ cu aM)=kf aD aL aY bZ cg fY cj aQ y aM:=by
 unfold kf
 walk_at "rec"
theorem Jj (aD aL aY bZ cg fY cj aQ cu aM y:V):bU "balance" y (kf aD aL aY bZ cg fY cj aQ cu aM)=kf aD aL aY bZ cg fY cj aQ cu y:=by
 unfold kf
 walk_at "rec"
theorem kfN {aD aL aY bZ cg fY cj aQ cu aM:V} (h:m∉[("room" : Str),("reach" : Str),("span" : Str),("came" : Str),("went" : Str),("up" : Str),("down" : Str),("window" : Str),("seen" : Str),("balance" : Str)]):(kf aD aL aY bZ cg fY cj aQ cu aM).lookup m=none:=by
 simp only [cU,jd,or_false,not_or] at h
 obtain ⟨yG,PX,Yx,akD,akE,h_up,akF,af3,akG,aa3⟩:=h
 unfold kf
 rw [cV yG,cV PX,cV Yx,cV akD,cV akE,cV h_up,cV akF,cV af3,cV akG,cV aa3]
 rfl
structure Fq where
 (p dx d:Addr) (t l:Int) (c:Tab)
structure Rs where
 (dx a:Addr) (bs:List Addr) (r tt ov un tn:Int) (mi ma:Option Int) (ls:RG.Ls)
noncomputable abbrev RnX (A:Ad) (H:Hp) (p:Addr) (x:Rs):Prop:=Rn A H p x.dx x.a x.bs x.r x.tt x.ov x.un x.tn x.mi x.ma x.ls
structure Ru where
 (p:Addr) (x:Rs)
structure Wi where
 (p dx l:Addr) (c:Int) (ps:List Bp)
structure Di where
 (p dx l:Addr) (n v:Int) (C:List Int)
structure Ba where
 (p dx l:Addr) (q:Q4)
structure KS where
 (k dk:Addr) (room:Nat) (reach span:Int) (cm wn:Fq) (up dn:Ru) (wi:Wi) (di:Di) (ba:Ba)
variable {x x' y:KS}
structure sV (A:Ad) (H:Hp) (room:Nat) (f:Fq):Prop where
 o:H f.p=some (.ins A.gY f.dx (fl room f.t f.l f.d))
 d:H f.d=some (.dK (emb f.c))
theorem sV.same {f:Fq} (h:sV A H room f) (s:Same H H'):sV A H' room f:=⟨s _ _ h.o,s _ _ h.d⟩
theorem sV.but {f:Fq} {q C:Addr} {fs:List (Str × V)} (h:sV A H room f) (s:L2.But q H H') (hq:H q=some (.ins C e fs)) (n:f.p≠q):sV A H' room f :=
 ⟨s _ _ h.o n,s _ _ h.d (jg h.d hq (by intro z;cases z))⟩
noncomputable def KS.all (x:KS):List Addr:=[x.k,x.cm.p,x.wn.p,x.up.p,x.dn.p,x.wi.p,x.di.p,x.ba.p]
structure Kp (A:Ad) (H:Hp) (x:KS):Prop where
 o:H x.k=some (.ins A.bw x.dk (kf (.int x.room) (.int x.reach) (.int x.span) (.ref x.cm.p) (.ref x.wn.p) (.ref x.up.p) (.ref x.dn.p) (.ref x.wi.p) (.ref x.di.p) (.ref x.ba.p)))
 cm:sV A H x.room x.cm
 wn:sV A H x.room x.wn
 up:RnX A H x.up.p x.up.x
 dn:RnX A H x.dn.p x.dn.x
 wi:Wn A H x.wi.p x.wi.dx x.wi.l x.room x.reach x.wi.c x.wi.ps
 di:Dn A H x.di.p x.di.dx x.di.l x.room x.di.n x.di.v (srt (My.up x.di.v x.di.C))
 ba:Bn A H x.ba.p x.ba.dx x.ba.l x.span x.ba.q
 nd:x.all.Nodup
theorem Kp.same (h:Kp A H x) (s:Same H H'):Kp A H' x:=⟨s _ _ h.o,h.cm.same s,h.wn.same s,h.up.same s,h.dn.same s,h.wi.same s,h.di.same s,h.ba.same s,h.nd⟩
/-- the eight are eight -/
structure Ap (x:KS):Prop where
 k1:x.k≠x.cm.p
 k2:x.k≠x.wn.p
 k3:x.k≠x.up.p
 k4:x.k≠x.dn.p
 k5:x.k≠x.wi.p
 k6:x.k≠x.di.p
 k7:x.k≠x.ba.p
 c2:x.cm.p≠x.wn.p
 c3:x.cm.p≠x.up.p
 c4:x.cm.p≠x.dn.p
 c5:x.cm.p≠x.wi.p
 c6:x.cm.p≠x.di.p
 c7:x.cm.p≠x.ba.p
 w3:x.wn.p≠x.up.p
 w4:x.wn.p≠x.dn.p
 w5:x.wn.p≠x.wi.p
 w6:x.wn.p≠x.di.p
 w7:x.wn.p≠x.ba.p
 u4:x.up.p≠x.dn.p
 u5:x.up.p≠x.wi.p
 u6:x.up.p≠x.di.p
 u7:x.up.p≠x.ba.p
 d5:x.dn.p≠x.wi.p
 d6:x.dn.p≠x.di.p
 d7:x.dn.p≠x.ba.p
 i6:x.wi.p≠x.di.p
 i7:x.wi.p≠x.ba.p
 s7:x.di.p≠x.ba.p
theorem Kp.ap (h:Kp A H x):Ap x:=by
 have n:=h.nd
 unfold KS.all at n
 simp only [jT,cU,jd,or_false,not_or,ud,and_true,not_false_eq_true] at n
 obtain ⟨⟨k1,k2,k3,k4,k5,k6,k7⟩,⟨c2,c3,c4,c5,c6,c7⟩,⟨w3,w4,w5,w6,w7⟩,⟨u4,u5,u6,u7⟩,⟨d5,d6,d7⟩,⟨i6,i7⟩,s7⟩:=n
 exact ⟨k1,k2,k3,k4,k5,k6,k7,c2,c3,c4,c5,c6,c7,w3,w4,w5,w6,w7,u4,u5,u6,u7,d5,d6,d7,i6,i7,s7⟩
theorem Kp.setC (h:Kp A H x) {f:Fq} (e:f.p=x.cm.p) (b:L2.But x.cm.p H H') (hf:sV A H' x.room f):Kp A H' { x with cm:=f }:=by
 have a:=h.ap
 have q:=h.cm.o
 refine ⟨?_,hf,h.wn.but b q (aK a.c2),h.up.but b q (aK a.c3),h.dn.but b q (aK a.c4),h.wi.but b q (aK a.c5),h.di.but b q (aK a.c6),h.ba.but b q (aK a.c7),?_⟩
 ·show H' x.k=some (.ins A.bw x.dk (kf _ _ _ (.ref f.p) _ _ _ _ _ _))
  rw [e];exact b _ _ h.o a.k1
 ·show [x.k,f.p,x.wn.p,x.up.p,x.dn.p,x.wi.p,x.di.p,x.ba.p].Nodup
  rw [e];exact h.nd
theorem Kp.setW (h:Kp A H x) {f:Fq} (e:f.p=x.wn.p) (b:L2.But x.wn.p H H') (hf:sV A H' x.room f):Kp A H' { x with wn:=f }:=by
 have a:=h.ap
 have q:=h.wn.o
 refine ⟨?_,h.cm.but b q a.c2,hf,h.up.but b q (aK a.w3),h.dn.but b q (aK a.w4),h.wi.but b q (aK a.w5),h.di.but b q (aK a.w6),h.ba.but b q (aK a.w7),?_⟩
 ·show H' x.k=some (.ins A.bw x.dk (kf _ _ _ _ (.ref f.p) _ _ _ _ _))
  rw [e];exact b _ _ h.o a.k2
 ·show [x.k,x.cm.p,f.p,x.up.p,x.dn.p,x.wi.p,x.di.p,x.ba.p].Nodup
  rw [e];exact h.nd
theorem Kp.setU (h:Kp A H x) {f:Ru} (e:f.p=x.up.p) (b:L2.But x.up.p H H') (hf:RnX A H' f.p f.x):Kp A H' { x with up:=f }:=by
 have a:=h.ap
 have q:=h.up.o
 refine ⟨?_,h.cm.but b q a.c3,h.wn.but b q a.w3,hf,h.dn.but b q (aK a.u4),h.wi.but b q (aK a.u5),h.di.but b q (aK a.u6),h.ba.but b q (aK a.u7),?_⟩
 ·show H' x.k=some (.ins A.bw x.dk (kf _ _ _ _ _ (.ref f.p) _ _ _ _))
  rw [e];exact b _ _ h.o a.k3
 ·show [x.k,x.cm.p,x.wn.p,f.p,x.dn.p,x.wi.p,x.di.p,x.ba.p].Nodup
  rw [e];exact h.nd
theorem Kp.setD (h:Kp A H x) {f:Ru} (e:f.p=x.dn.p) (b:L2.But x.dn.p H H') (hf:RnX A H' f.p f.x):Kp A H' { x with dn:=f }:=by
 have a:=h.ap
 have q:=h.dn.o
 refine ⟨?_,h.cm.but b q a.c4,h.wn.but b q a.w4,h.up.but b q a.u4,hf,h.wi.but b q (aK a.d5),h.di.but b q (aK a.d6),h.ba.but b q (aK a.d7),?_⟩
 ·show H' x.k=some (.ins A.bw x.dk (kf _ _ _ _ _ _ (.ref f.p) _ _ _))
  rw [e];exact b _ _ h.o a.k4
 ·show [x.k,x.cm.p,x.wn.p,x.up.p,f.p,x.wi.p,x.di.p,x.ba.p].Nodup
  rw [e];exact h.nd
theorem Kp.setI (h:Kp A H x) {f:Wi} (e:f.p=x.wi.p) (b:L2.But x.wi.p H H') (hf:Wn A H' f.p f.dx f.l x.room x.reach f.c f.ps):Kp A H' { x with wi:=f }:=by
 have a:=h.ap
 have q:=h.wi.o
 refine ⟨?_,h.cm.but b q a.c5,h.wn.but b q a.w5,h.up.but b q a.u5,h.dn.but b q a.d5,hf,h.di.but b q (aK a.i6),h.ba.but b q (aK a.i7),?_⟩
 ·show H' x.k=some (.ins A.bw x.dk (kf _ _ _ _ _ _ _ (.ref f.p) _ _))
  rw [e];exact b _ _ h.o a.k5
 ·show [x.k,x.cm.p,x.wn.p,x.up.p,x.dn.p,f.p,x.di.p,x.ba.p].Nodup
  rw [e];exact h.nd
theorem Kp.setS (h:Kp A H x) {f:Di} (e:f.p=x.di.p) (b:L2.But x.di.p H H') (hf:Dn A H' f.p f.dx f.l x.room f.n f.v (srt (My.up f.v f.C))):Kp A H' { x with di:=f }:=by
 have a:=h.ap
 have q:=h.di.o
 refine ⟨?_,h.cm.but b q a.c6,h.wn.but b q a.w6,h.up.but b q a.u6,h.dn.but b q a.d6,h.wi.but b q a.i6,hf,h.ba.but b q (aK a.s7),?_⟩
 ·show H' x.k=some (.ins A.bw x.dk (kf _ _ _ _ _ _ _ _ (.ref f.p) _))
  rw [e];exact b _ _ h.o a.k6
 ·show [x.k,x.cm.p,x.wn.p,x.up.p,x.dn.p,x.wi.p,f.p,x.ba.p].Nodup
  rw [e];exact h.nd
theorem Kp.setB (h:Kp A H x) {f:Ba} (e:f.p=x.ba.p) (b:L2.But x.ba.p H H') (hf:Bn A H' f.p f.dx f.l x.span f.q):Kp A H' { x with ba:=f }:=by
 have a:=h.ap
 have q:=h.ba.o
 refine ⟨?_,h.cm.but b q a.c7,h.wn.but b q a.w7,h.up.but b q a.u7,h.dn.but b q a.d7,h.wi.but b q a.i7,h.di.but b q a.s7,hf,?_⟩
 ·show H' x.k=some (.ins A.bw x.dk (kf _ _ _ _ _ _ _ _ _ (.ref f.p)))
  rw [e];exact b _ _ h.o a.k7
 ·show [x.k,x.cm.p,x.wn.p,x.up.p,x.dn.p,x.wi.p,x.di.p,f.p].Nodup
  rw [e];exact h.nd
open MK
theorem oM {T ov un:Int} (g:RG.Good r T ov un ls) (h:T<=1000000000000*n) (hn:n<=60000):ls.length<=60/\RG.val ls<2 ^ 400:=by
 have e:(2:Int) ^ 60=1152921504606846976:=by decide
 refine ⟨g.len (by rw [e];lia),?_⟩
 have:=g.vl
 have e:(1152921504606846976:Nat)<2 ^ 400:=by decide
 lia
noncomputable def KS.pts (x:KS):List Addr:=[x.cm.p,x.wn.p,x.up.p,x.dn.p,x.wi.p,x.di.p,x.ba.p]
structure Pp (A:Ad) (H:Hp) (x:KS):Prop where
 cm:sV A H x.room x.cm
 wn:sV A H x.room x.wn
 up:RnX A H x.up.p x.up.x
 dn:RnX A H x.dn.p x.dn.x
 wi:Wn A H x.wi.p x.wi.dx x.wi.l x.room x.reach x.wi.c x.wi.ps
 di:Dn A H x.di.p x.di.dx x.di.l x.room x.di.n x.di.v (srt (My.up x.di.v x.di.C))
 ba:Bn A H x.ba.p x.ba.dx x.ba.l x.span x.ba.q
 nd:x.pts.Nodup
theorem Kp.pp (h:Kp A H x):Pp A H x:=⟨h.cm,h.wn,h.up,h.dn,h.wi,h.di,h.ba,(jT.mp h.nd).2⟩
theorem Kp.nk (h:Kp A H x):x.k∉x.pts:=(jT.mp h.nd).1
theorem Pp.kp (h:Pp A H x) (o:H x.k=some (.ins A.bw x.dk (kf (.int x.room) (.int x.reach) (.int x.span) (.ref x.cm.p) (.ref x.wn.p) (.ref x.up.p) (.ref x.dn.p) (.ref x.wi.p) (.ref x.di.p) (.ref x.ba.p)))) (n:x.k∉x.pts):Kp A H x :=
 ⟨o,h.cm,h.wn,h.up,h.dn,h.wi,h.di,h.ba,jT.mpr ⟨n,h.nd⟩⟩
theorem Pp.but {q C:Addr} {fs:List (Str × V)} (h:Pp A H x) (b:L2.But q H H') (hq:H q=some (.ins C e fs)) (n:q∉x.pts):Pp A H' x:=by
 unfold KS.pts at n
 simp only [cU,jd,or_false,not_or] at n
 obtain ⟨n1,n2,n3,n4,n5,n6,n7⟩:=n
 exact ⟨h.cm.but b hq (aK n1),h.wn.but b hq (aK n2),h.up.but b hq (aK n3),h.dn.but b hq (aK n4),h.wi.but b hq (aK n5),h.di.but b hq (aK n6),h.ba.but b hq (aK n7),h.nd⟩
/-- the seven are seven -/
structure Ap7 (x:KS):Prop where
 c:x.cm.p≠x.wn.p/\x.cm.p≠x.up.p/\x.cm.p≠x.dn.p/\x.cm.p≠x.wi.p/\x.cm.p≠x.di.p/\x.cm.p≠x.ba.p
 w:x.wn.p≠x.up.p/\x.wn.p≠x.dn.p/\x.wn.p≠x.wi.p/\x.wn.p≠x.di.p/\x.wn.p≠x.ba.p
 u:x.up.p≠x.dn.p/\x.up.p≠x.wi.p/\x.up.p≠x.di.p/\x.up.p≠x.ba.p
 d:x.dn.p≠x.wi.p/\x.dn.p≠x.di.p/\x.dn.p≠x.ba.p
 i:x.wi.p≠x.di.p/\x.wi.p≠x.ba.p
 s:x.di.p≠x.ba.p
theorem Pp.ap (h:Pp A H x):Ap7 x:=by
 have n:=h.nd
 unfold KS.pts at n
 simp only [jT,cU,jd,or_false,not_or,ud,and_true,not_false_eq_true] at n
 obtain ⟨c,w,u,d,i,s⟩:=n
 exact ⟨c,w,u,d,i,s⟩
theorem Pp.setC (h:Pp A H x) {f:Fq} (e:f.p=x.cm.p) (b:L2.But x.cm.p H H') (hf:sV A H' x.room f):Pp A H' { x with cm:=f }:=by
 have a:=h.ap
 have q:=h.cm.o
 obtain ⟨a1,a2,a3,a4,a5,a6⟩:=a.c
 exact ⟨hf,h.wn.but b q (aK a1),h.up.but b q (aK a2),h.dn.but b q (aK a3),h.wi.but b q (aK a4),h.di.but b q (aK a5),h.ba.but b q (aK a6),by
  show [f.p,x.wn.p,x.up.p,x.dn.p,x.wi.p,x.di.p,x.ba.p].Nodup
  rw [e];exact h.nd⟩
theorem Pp.setW (h:Pp A H x) {f:Fq} (e:f.p=x.wn.p) (b:L2.But x.wn.p H H') (hf:sV A H' x.room f):Pp A H' { x with wn:=f }:=by
 have a:=h.ap
 have q:=h.wn.o
 obtain ⟨a2,a3,a4,a5,a6⟩:=a.w
 exact ⟨h.cm.but b q a.c.1,hf,h.up.but b q (aK a2),h.dn.but b q (aK a3),h.wi.but b q (aK a4),h.di.but b q (aK a5),h.ba.but b q (aK a6),by
  show [x.cm.p,f.p,x.up.p,x.dn.p,x.wi.p,x.di.p,x.ba.p].Nodup
  rw [e];exact h.nd⟩
theorem Pp.setU (h:Pp A H x) {f:Ru} (e:f.p=x.up.p) (b:L2.But x.up.p H H') (hf:RnX A H' f.p f.x):Pp A H' { x with up:=f }:=by
 have a:=h.ap
 have q:=h.up.o
 obtain ⟨a3,a4,a5,a6⟩:=a.u
 exact ⟨h.cm.but b q a.c.2.1,h.wn.but b q a.w.1,hf,h.dn.but b q (aK a3),h.wi.but b q (aK a4),h.di.but b q (aK a5),h.ba.but b q (aK a6),by
  show [x.cm.p,x.wn.p,f.p,x.dn.p,x.wi.p,x.di.p,x.ba.p].Nodup
  rw [e];exact h.nd⟩
theorem Pp.setD (h:Pp A H x) {f:Ru} (e:f.p=x.dn.p) (b:L2.But x.dn.p H H') (hf:RnX A H' f.p f.x):Pp A H' { x with dn:=f }:=by
 have a:=h.ap
 have q:=h.dn.o
 obtain ⟨a4,a5,a6⟩:=a.d
 exact ⟨h.cm.but b q a.c.2.2.1,h.wn.but b q a.w.2.1,h.up.but b q a.u.1,hf,h.wi.but b q (aK a4),h.di.but b q (aK a5),h.ba.but b q (aK a6),by
  show [x.cm.p,x.wn.p,x.up.p,f.p,x.wi.p,x.di.p,x.ba.p].Nodup
  rw [e];exact h.nd⟩
theorem Pp.setI (h:Pp A H x) {f:Wi} (e:f.p=x.wi.p) (b:L2.But x.wi.p H H') (hf:Wn A H' f.p f.dx f.l x.room x.reach f.c f.ps):Pp A H' { x with wi:=f }:=by
 have a:=h.ap
 have q:=h.wi.o
 exact ⟨h.cm.but b q a.c.2.2.2.1,h.wn.but b q a.w.2.2.1,h.up.but b q a.u.2.1,h.dn.but b q a.d.1,hf,h.di.but b q (aK a.i.1),h.ba.but b q (aK a.i.2),by
  show [x.cm.p,x.wn.p,x.up.p,x.dn.p,f.p,x.di.p,x.ba.p].Nodup
  rw [e];exact h.nd⟩
theorem Pp.setS (h:Pp A H x) {f:Di} (e:f.p=x.di.p) (b:L2.But x.di.p H H') (hf:Dn A H' f.p f.dx f.l x.room f.n f.v (srt (My.up f.v f.C))):Pp A H' { x with di:=f }:=by
 have a:=h.ap
 have q:=h.di.o
 exact ⟨h.cm.but b q a.c.2.2.2.2.1,h.wn.but b q a.w.2.2.2.1,h.up.but b q a.u.2.2.1,h.dn.but b q a.d.2.1,h.wi.but b q a.i.1,hf,h.ba.but b q (aK a.s),by
  show [x.cm.p,x.wn.p,x.up.p,x.dn.p,x.wi.p,f.p,x.ba.p].Nodup
  rw [e];exact h.nd⟩
theorem Pp.setB (h:Pp A H x) {f:Ba} (e:f.p=x.ba.p) (b:L2.But x.ba.p H H') (hf:Bn A H' f.p f.dx f.l x.span f.q):Pp A H' { x with ba:=f }:=by
 have a:=h.ap
 have q:=h.ba.o
 exact ⟨h.cm.but b q a.c.2.2.2.2.2,h.wn.but b q a.w.2.2.2.2,h.up.but b q a.u.2.2.2,h.dn.but b q a.d.2.2,h.wi.but b q a.i.2,h.di.but b q a.s,hf,by
  show [x.cm.p,x.wn.p,x.up.p,x.dn.p,x.wi.p,x.di.p,f.p].Nodup
  rw [e];exact h.nd⟩
/-- nothing but these parts has changed -/
structure Far (A:Ad) (ps:List Addr) (H H':Hp):Prop where
 pb:∀ b o,H b=some o->b∉ps->H' b=some o
 py:∀ y:KS,Pp A H y->(∀ b∈y.pts,b∉ps)->Pp A H' y
theorem Far.of {ps:List Addr} {p C:Addr} {fs:List (Str × V)} (m:p∈ps) (hq:H p=some (.ins C e fs)) (b:L2.But p H H'):Far A ps H H' :=
 ⟨fun c o e n=>b c o e fun z=>n (by rw [z];exact m),fun y h d=>h.but b hq fun z=>d p z m⟩
theorem Far.trans {ps:List Addr} {H1:Hp} (a:Far A ps H H1) (b:Far A ps H1 H'):Far A ps H H':=⟨fun c o e n=>b.pb c o (a.pb c o e n) n,fun y h d=>b.py y (a.py y h d) d⟩
noncomputable def FS (room:Nat) (th w:Int) (f g:Fq):Prop:=∃ cut,lW room (put f.c th (low f.c th+w)) g.c cut/\g.t=f.t+w/\g.l=f.l+cut
structure RS (th w:Int) (f g:Rs):Prop where
 r:g.r=f.r
 tt:g.tt=f.tt+w
 mi:g.mi=lo2 f.mi (some th)
 ma:g.ma=hi2 f.ma (some th)
 st:RG.Stl f.r 0 f.tn f.ov f.un (RG.gH th f.ls w.toNat) g.ls g.tn g.ov g.un
noncomputable def WS (room:Nat) (reach c:Int) (bs:List WN.Box) (g:Wi):Prop:=g.c=c/\bx g.ps=oH room (c-reach) bs
noncomputable def DS (room:Nat) (th:Int) (f g:Di):Prop:=g.n=f.n+1/\g.C=came f.C th/\Lvl room f.v g.v (came f.C th)
structure SB (x x':KS):Prop where
 room:x'.room=x.room
 reach:x'.reach=x.reach
 span:x'.span=x.span
 pts:x'.pts=x.pts
 k:x'.k=x.k
 dk:x'.dk=x.dk
structure SP (th w:Int) (x x':KS):Prop where
 sb:SB x x'
 cm:FS x.room th w x.cm x'.cm
 wn:x'.wn=x.wn
 up:RS th w x.up.x x'.up.x
 dn:x'.dn=x.dn
 wi:WS x.room x.reach (x.wi.c+1) (bx x.wi.ps++[⟨x.wi.c+1,x.wi.c+1,w⟩]) x'.wi
 di:DS x.room th x.di x'.di
 ba:x'.ba.q=if th<x.span then addQ x.ba.q (pwQ th w) else x.ba.q
structure ST (th w:Int) (x x':KS):Prop where
 sb:SB x x'
 cm:x'.cm=x.cm
 wn:FS x.room th w x.wn x'.wn
 up:x'.up=x.up
 dn:RS th w x.dn.x x'.dn.x
 wi:WS x.room x.reach (x.wi.c+1) (bx x.wi.ps) x'.wi
 di:x'.di=x.di
 ba:x'.ba.q=if th<x.span then addQ x.ba.q (pwQ th (-w)) else x.ba.q
structure SI (w:Int) (x x':KS):Prop where
 sb:SB x x'
 cm:x'.cm=x.cm
 wn:x'.wn=x.wn
 up:x'.up=x.up
 dn:x'.dn=x.dn
 wi:WS x.room x.reach (x.wi.c+w) (bx x.wi.ps) x'.wi
 di:x'.di=x.di
 ba:x'.ba=x.ba
/-- the same data -/
structure EF (f g:Fq):Prop where
 t:f.t=g.t
 l:f.l=g.l
 c:f.c=g.c
structure ER (f g:Rs):Prop where
 r:f.r=g.r
 tt:f.tt=g.tt
 ov:f.ov=g.ov
 un:f.un=g.un
 tn:f.tn=g.tn
 mi:f.mi=g.mi
 ma:f.ma=g.ma
 ls:f.ls=g.ls
structure EW (f g:Wi):Prop where
 c:f.c=g.c
 b:bx f.ps=bx g.ps
structure ED (f g:Di):Prop where
 n:f.n=g.n
 v:f.v=g.v
 C:f.C=g.C
structure Eqp (x y:KS):Prop where
 room:x.room=y.room
 reach:x.reach=y.reach
 span:x.span=y.span
 cm:EF x.cm y.cm
 wn:EF x.wn y.wn
 up:ER x.up.x y.up.x
 dn:ER x.dn.x y.dn.x
 wi:EW x.wi y.wi
 di:ED x.di y.di
 ba:x.ba.q=y.ba.q
theorem Eqp.idle {w:Int} {y':KS} (e:Eqp x y) (a:SI w x x') (b:SI w y y'):Eqp x' y' :=
 ⟨by rw [a.sb.room,b.sb.room,e.room],by rw [a.sb.reach,b.sb.reach,e.reach],by rw [a.sb.span,b.sb.span,e.span],by rw [a.cm,b.cm];exact e.cm,by rw [a.wn,b.wn];exact e.wn,by rw [a.up,b.up];exact e.up,by rw [a.dn,b.dn];exact e.dn,
  ⟨by rw [a.wi.1,b.wi.1,e.wi.c],by rw [a.wi.2,b.wi.2,e.wi.c,e.wi.b,e.room,e.reach]⟩,by rw [a.di,b.di];exact e.di,by rw [a.ba,b.ba,e.ba]⟩
structure Gf (room:Nat) (f:Fq) (n:Nat):Prop where
 ok:∃ W,Ok room f.c f.t f.l W
 t:f.t<=1000000000000*n
structure Gr (room:Nat) (f:Rs) (n:Nat):Prop where
 r:f.r=room
 g:RG.Good f.r f.tt f.ov f.un f.ls
 t:f.tt<=1000000000000*n
structure Kh (x:KS) (n:Nat):Prop where
 r2:2<=x.room
 r64:x.room<=64
 cm:Gf x.room x.cm n
 wn:Gf x.room x.wn n
 up:Gr x.room x.up.x n
 dn:Gr x.room x.dn.x n
 kr:1<=x.reach
 wl:∃ rows,WN.Inv x.room x.reach x.wi.c rows (bx x.wi.ps)/\WN.wt rows<=1000000000000*n
 dl:vf x.room x.di.v x.di.C
 dc:x.di.C.length<=700
 few:n<=60000
theorem ahy:∀ r<65,60000000000000000*r ^ 2549<=(r+1) ^ 2549:=by decide +kernel
theorem akH {r e M:Nat} {S:Int} (h:M*r ^ e<=(r+1) ^ e) (f:((r:Int)+1) ^ e<S*(r:Int) ^ e) (s:S<=(M:Int)):False:=by
 have k2:(M:Int)*(r:Int) ^ e<=((r:Int)+1) ^ e:=by exact_mod_cast h
 have p0:(0:Int)<=(r:Int) ^ e:=ac9 tb_g%
 have k3:=Gv s p0
 generalize ((r:Int)+1) ^ e=A at k2 f
 generalize (r:Int) ^ e=B at k2 f k3
 lia
theorem Kh.aa4 (h:Kh x n):x.wi.ps.length<=5100:=by
 obtain ⟨rows,iv,wt⟩:=h.wl
 have r2:=h.r2
 have r64:=h.r64
 have few:=h.few
 rcases jW 5100 x.wi.ps.length with hl | hl
 ·have s1:=iv.Pb
  exact (akH (ahy x.room tb_g%) (iv.few tb_g% 2548 (by rw [yH];lia)) tb_g%).elim
 ·exact hl
theorem Gf.add {f g:Fq} {w:Int} (h:Gf room f n) (s:FS room th w f g) (w1:1<=w) (w2:w<=1000000000000):Gf room g (n+1):=by
 obtain ⟨cut,a,b,c⟩:=s
 obtain ⟨W,ok⟩:=h.ok
 have:=h.t
 exact ⟨⟨_,by rw [b,c];exact (ok.add (k:=th) w1).fit a⟩,by rw [b];lia⟩
theorem Gf.next {f:Fq} (h:Gf room f n):Gf room f (n+1):=⟨h.ok,by have:=h.t;lia⟩
theorem Gr.add {f g:Rs} {w:Int} (h:Gr room f n) (s:RS th w f g) (w1:1<=w) (w2:w<=1000000000000):Gr room g (n+1):=by
 have:=h.t
 obtain ⟨g',_⟩:=h.g.add w1 s.st
 exact ⟨by rw [s.r,h.r],by rw [s.r,s.tt];exact g',by rw [s.tt];lia⟩
theorem Gr.next {f:Rs} (h:Gr room f n):Gr room f (n+1):=⟨h.r,h.g,by have:=h.t;lia⟩
theorem Kh.put {w:Int} (h:Kh x n) (hn:n<60000) (hc:(came x.di.C th).length<=700) (s:SP th w x x') (w1:1<=w) (w2:w<=1000000000000):Kh x' (n+1):=by
 have r:=s.sb.room
 have rc:=s.sb.reach
 obtain ⟨rows,iv,wt⟩:=h.wl
 refine ⟨by rw [r];exact h.r2,by rw [r];exact h.r64,by rw [r];exact h.cm.add s.cm w1 w2,by rw [r,s.wn];exact h.wn.next,by rw [r];exact h.up.add s.up w1 w2,by rw [r,s.dn];exact h.dn.next,by rw [rc];exact h.kr,⟨rows++[(x.wi.c+1,w)],?_,?_⟩,?_,by rw [s.di.2.1];exact hc,hn⟩
 ·rw [r,rc,s.wi.1,s.wi.2];exact iv.add tb_g% w1
 ·rw [WN.Cu,WN.ZF,WN.aj2];show WN.wt rows+(w+0)<=_;lia
 ·rw [r,s.di.2.1];exact h.dl.lvl s.di.2.2 fun w=>ahu
theorem Kh.take {w:Int} (h:Kh x n) (hn:n<60000) (s:ST th w x x') (w1:1<=w) (w2:w<=1000000000000):Kh x' (n+1):=by
 have r:=s.sb.room
 have rc:=s.sb.reach
 obtain ⟨rows,iv,wt⟩:=h.wl
 refine ⟨by rw [r];exact h.r2,by rw [r];exact h.r64,by rw [r,s.cm];exact h.cm.next,by rw [r];exact h.wn.add s.wn w1 w2,by rw [r,s.up];exact h.up.next,by rw [r];exact h.dn.add s.dn w1 w2,by rw [rc];exact h.kr,⟨rows,?_,by lia⟩,by rw [r,s.di];exact h.dl,by rw [s.di];exact h.dc,hn⟩
 rw [r,rc,s.wi.1,s.wi.2];exact iv.idle tb_g% (by have:=h.kr;lia) (by decide)
theorem Kh.idle {w:Int} (h:Kh x n) (hn:n<60000) (s:SI w x x') (w1:1<=w):Kh x' (n+1):=by
 have r:=s.sb.room
 have rc:=s.sb.reach
 obtain ⟨rows,iv,wt⟩:=h.wl
 refine ⟨by rw [r];exact h.r2,by rw [r];exact h.r64,by rw [r,s.cm];exact h.cm.next,by rw [r,s.wn];exact h.wn.next,by rw [r,s.up];exact h.up.next,by rw [r,s.dn];exact h.dn.next,by rw [rc];exact h.kr,⟨rows,?_,by lia⟩,by rw [r,s.di];exact h.dl,by rw [s.di];exact h.dc,hn⟩
 rw [r,rc,s.wi.1,s.wi.2];exact iv.idle tb_g% (by have:=h.kr;lia) tb_g%
noncomputable def R0 (room:Nat):Rs:=⟨0,0,[],room,0,0,0,0,none,none,[]⟩
/-- the data of a keepsake to which nothing came -/
noncomputable def K0 (room:Nat) (reach span:Int):KS:=⟨0,0,room,reach,span,⟨0,0,0,0,0,[]⟩,⟨0,0,0,0,0,[]⟩,⟨0,R0 room⟩,⟨0,R0 room⟩,⟨0,0,0,0,[]⟩,⟨0,0,0,0,0,[]⟩,⟨0,0,0,Z1⟩⟩
theorem Kh.eq (h:Kh y n) (e:Eqp x y):Kh x n:=by
 have gf:∀ {f g:Fq},EF f g->Gf y.room g n->Gf x.room f n:=fun {f g} e1 g1=>⟨by rw [e.room,e1.t,e1.l,e1.c];exact g1.ok,by rw [e1.t];exact g1.t⟩
 have gr:∀ {f g:Rs},ER f g->Gr y.room g n->Gr x.room f n:=fun {f g} e1 g1=>⟨by rw [e.room,e1.r];exact g1.r,by rw [e1.r,e1.tt,e1.ov,e1.un,e1.ls];exact g1.g,by rw [e1.tt];exact g1.t⟩
 exact ⟨by rw [e.room];exact h.r2,by rw [e.room];exact h.r64,gf e.cm h.cm,gf e.wn h.wn,gr e.up h.up,gr e.dn h.dn,by rw [e.reach];exact h.kr,by rw [e.room,e.reach,e.wi.c,e.wi.b];exact h.wl,by rw [e.room,e.di.v,e.di.C];exact h.dl,by rw [e.di.C];exact h.dc,h.few⟩
theorem kh0 (reach span:Int) (r2:2<=room) (r64:room<=64) (ev:room % 2=0) (kr:1<=reach):Kh (K0 room reach span) 0:=by
 have ok0:Gf room ⟨0,0,0,0,0,[]⟩ 0:=⟨⟨_,Ok.empty room⟩,cP _⟩
 have g0:RG.Good (room:Int) 0 0 0 []:=RG.Good.new tb_g% tb_g% tb_g%
 exact ⟨r2,r64,ok0,ok0,⟨rfl,g0,cP _⟩,⟨rfl,g0,cP _⟩,kr,⟨[],WN.Inv.init _ _,cP _⟩,⟨cP _,by show ((0:Nat):Int)<=room;lia,fun w a b=>absurd a (by have b2:w<0:=b;lia)⟩,cB _,by decide⟩
open MK
noncomputable def KS.ems (x:KS):List Addr:=x.up.x.a::x.dn.x.a::x.wi.l::x.di.l::(x.up.x.bs++x.dn.x.bs)
noncomputable def Em (H:Hp) (x x':KS):Prop:=∀ c∈x'.ems,c∈x.ems\/H c=none
theorem Pp.live (h:Pp A H x):∀ b∈x.pts,H b≠none:=fun b m=>by
 unfold KS.pts at m
 simp only [cU,jd,or_false] at m
 rcases m with rfl | rfl | rfl | rfl | rfl | rfl | rfl
 ·rw [h.cm.o];intro z;cases z
 ·rw [h.wn.o];intro z;cases z
 ·rw [h.up.o];intro z;cases z
 ·rw [h.dn.o];intro z;cases z
 ·rw [h.wi.o];intro z;cases z
 ·rw [h.di.o];intro z;cases z
 ·rw [h.ba.o];intro z;cases z
theorem Far.none {H1:Hp} {ps:List Addr} (f:Far A ps H H1) (lv:∀ b∈ps,H1 b≠Option.none) {c:Addr} (n:H1 c=Option.none):H c=Option.none:=by
 cases e:H c with
 | none=>rfl
 | some o =>
  exfalso
  by_cases m:c∈ps
  ·exact lv c m n
  ·rw [f.pb c o e m] at n;cases n
noncomputable def akI (A:Ad):Sp:=fun vs H Q _=>∃ (x:KS) (n:Nat) (th w:Int),vs=[.ref x.k,.int th,.int w]/\Kp A H x/\Kh x n/\n<60000/\0<=th/\th<1152921504606846976/\1<=w/\w<=1000000000000 /\
 ∀ (x':KS) (H':Hp),Kp A H' x'->SP th w x x'->Far A x.pts H H'->Em H x x'->Q .non H'
theorem ok'29 (T:Tx K mg A):cY P w K mg base CX0 6 A.V7 A.oh ["self","thing","weight"] (akI A):=by
 k_dat (T.F'29.ok,Ek) "a"
 ·obtain ⟨x,n,th,w,rfl,_⟩:=h
  rfl
 ·obtain ⟨x,n,th,w,rfl,hK,hG,hn,th0,th1,w1,w2,q⟩:=h
  have e64:(2:Int) ^ 64=18446744073709551616:=by decide
  have r2:=hG.r2
  have r64:=hG.r64
  have lu:=oM hG.up.g hG.up.t hG.few
  have su:=hG.up.g.small
  have hrm:=hG.up.r
  obtain ⟨W,okf⟩:=hG.cm.ok
  refine ⟨_,(aq (cR (dW (aC (pv 0) rfl) T.fK T.uU (aib T) tb_g% T.b'24 .nil bG (ao (pv 1) (ao (pv 2) aB))))
   (aq (cR (dW (aC (pv 0) rfl) T.bT T.DN (ok'8 T) tb_g% T.b'8 .nil bG (ao (pv 1) (ao (pv 2) aB))))
   (aq (cR (dW (aC (pv 0) rfl) T.dJ T.Pu (ok'12 T) tb_g% T.b'12 .nil bG (ao (pv 2) aB)))
   (aq (cR (dW (aC (pv 0) rfl) T.fJ T.Iu (ok'19 T) tb_g% T.b'19 .nil bG (ao (pv 1) aB)))
   (aF (d9 (aR uH (pv 1) (aC (pv 0) rfl) (aX _)) (aF (cR (dW (aC (pv 0) rfl) T.mL T.Jx (ok'27 T) tb_g% T.b'27 .nil bG (ao (pv 1) (ao (pv 2) aB))))) cQ)))))),?_⟩
  refine ⟨_,rfl,rdF hK.o T.bQ T.Dv (Fd ..) ⟨x.cm.p,x.cm.dx,_,rfl,hK.cm.o,Z0 _ _ _ _ tb_g% tb_g% tb_g% tb_g%,_,rfl,_,rfl,x.cm.p,x.cm.dx,x.cm.d,x.room,x.cm.t,x.cm.l,th,w,x.cm.c,rfl,hK.cm.o,hK.cm.d,okf.nd,okf.pos,w1,by have:=okf.len;lia,fun d1 c1 cut H1 hd1 ft o1 e1 b1=>?_⟩⟩
  have P1:=hK.pp.setC (f:=⟨x.cm.p,x.cm.dx,d1,x.cm.t+w,x.cm.l+cut,c1⟩) rfl b1 ⟨o1,e1⟩
  have f1:Far A x.pts H H1:=Far.of (by simp [KS.pts]) hK.cm.o b1
  refine ⟨_,rfl,rdF (f1.pb _ _ hK.o hK.nk) T.bQ T.Dy (Z2 ..) ⟨x.up.p,x.up.x.dx,_,rfl,P1.up.o,rgN tb_g%,_,rfl,_,rfl,x.up.p,x.up.x.dx,x.up.x.a,x.up.x.bs,x.up.x.r,x.up.x.tt,x.up.x.ov,x.up.x.un,x.up.x.tn,th,w,x.up.x.mi,x.up.x.ma,x.up.x.ls,rfl,P1.up,hG.up.g.r2,hG.up.g.r64,by lia,by rw [e64];lia,by lia,fun l hl=>by have:=su l hl;lia,lu.2,fun a' bs' out tn' ov' un' H2 st rn b2 na2 nb2=>?_⟩⟩
  have P2:=P1.setU (f:=⟨x.up.p,⟨x.up.x.dx,a',bs',x.up.x.r,x.up.x.tt+w,ov',un',tn',_,_,out⟩⟩) rfl b2 rn
  have f2:=f1.trans (Far.of (A:=A) (ps:=x.pts) (by simp [KS.pts]) P1.up.o b2)
  refine ⟨_,rfl,rdF (f2.pb _ _ hK.o hK.nk) T.bQ T.uP (kZ ..) ⟨x.wi.p,x.wi.dx,_,rfl,P2.wi.o,KY _ _ _ _ tb_g% tb_g% tb_g% tb_g%,_,rfl,x.wi.p,x.wi.dx,x.wi.l,x.room,x.reach,x.wi.c,w,x.wi.ps,rfl,P2.wi,by have:=hG.aa4;lia,by lia,by lia,fun l3 ps3 H3 eb3 wn3 b3 nl3=>?_⟩⟩
  have P3:=P2.setI (f:=⟨x.wi.p,x.wi.dx,l3,x.wi.c+1,ps3⟩) rfl b3 wn3
  have f3:=f2.trans (Far.of (A:=A) (ps:=x.pts) (by simp [KS.pts]) P2.wi.o b3)
  refine ⟨_,rfl,rdF (f3.pb _ _ hK.o hK.nk) T.bQ T.DG (Fi ..) ⟨x.di.p,x.di.dx,_,rfl,P3.di.o,afV _ _ _ _ tb_g% tb_g% tb_g% tb_g%,_,rfl,x.di.p,x.di.dx,x.di.l,x.room,x.di.n,x.di.v,th,x.di.C,rfl,P3.di,hG.dl,by have:=hG.dc;lia,by lia,by lia,fun l4 v4 H4 lv4 dn4 b4 nl4=>?_⟩⟩
  have P4:=P3.setS (f:=⟨x.di.p,x.di.dx,l4,x.di.n+1,v4,came x.di.C th⟩) rfl b4 dn4
  have f4:=f3.trans (Far.of (A:=A) (ps:=x.pts) (by simp [KS.pts]) P3.di.o b4)
  have em:∀ c∈a'::x.dn.x.a::l3::l4::(bs'++x.dn.x.bs),c∈x.ems\/H c=none:=fun c m=>by
   unfold KS.ems
   simp only [cU,dg] at m ⊢
   rcases m with rfl | rfl | rfl | rfl | m | m
   ·exact .inr (f1.none P1.live na2)
   ·exact .inl (.inr (.inl rfl))
   ·exact .inr (f2.none P2.live nl3)
   ·rcases nl4 with rfl | n
    ·exact .inl (.inr (.inr (.inr (.inl rfl))))
    ·exact .inr (f3.none P3.live n)
   ·rcases nb2 c m with m | n
    ·exact .inl (.inr (.inr (.inr (.inr (.inl m)))))
    ·exact .inr (f1.none P1.live n)
   ·exact .inl (.inr (.inr (.inr (.inr (.inr m)))))
  have o4:=f4.pb _ _ hK.o hK.nk
  refine ⟨_,rfl,_,rfl,rdF o4 T.bQ T.wG (sS ..) ⟨_,_,rfl,rfl,_,rfl,eF (fun hs=>?_) (fun hs=>?_)⟩⟩
  ·have hs:th<x.span:=of_decide_eq_true hs
   refine ⟨_,rfl,rdF o4 T.bQ T.DK (sU ..) ⟨x.ba.p,x.ba.dx,_,rfl,P4.ba.o,aic _ _ tb_g% tb_g%,_,rfl,_,rfl,x.ba.p,x.ba.dx,x.ba.l,x.span,th,w,x.ba.q,rfl,P4.ba,th0,by rw [e64];lia,fun l5 H5 bn5 b5 nl5=>?_⟩⟩
   have P5:=P4.setB (f:=⟨x.ba.p,x.ba.dx,l5,_⟩) rfl b5 bn5
   have f5:=f4.trans (Far.of (A:=A) (ps:=x.pts) (by simp [KS.pts]) P4.ba.o b5)
   exact q _ H5 (P5.kp (f5.pb _ _ hK.o hK.nk) hK.nk) ⟨⟨rfl,rfl,rfl,rfl,rfl,rfl⟩,⟨cut,ft,rfl,rfl⟩,rfl,⟨rfl,rfl,rfl,rfl,st⟩,rfl,⟨rfl,eb3⟩,⟨rfl,rfl,lv4⟩,(if_pos hs).symm⟩ f5 em
  ·have hs:¬ th<x.span:=fun z=>hs (decide_eq_true z)
   exact q _ H4 (P4.kp o4 hK.nk) ⟨⟨rfl,rfl,rfl,rfl,rfl,rfl⟩,⟨cut,ft,rfl,rfl⟩,rfl,⟨rfl,rfl,rfl,rfl,st⟩,rfl,⟨rfl,eb3⟩,⟨rfl,rfl,lv4⟩,(if_neg hs).symm⟩ f4 em
noncomputable def ahz (A:Ad):Sp:=fun vs H Q _=>∃ (x:KS) (n:Nat) (th w:Int),vs=[.ref x.k,.int th,.int w]/\Kp A H x/\Kh x n/\n<60000/\0<=th/\th<1152921504606846976/\1<=w/\w<=1000000000000 /\
 ∀ (x':KS) (H':Hp),Kp A H' x'->ST th w x x'->Far A x.pts H H'->Em H x x'->Q .non H'
theorem ok'30 (T:Tx K mg A):cY P w K mg base CX0 7 A.V8 A.mC ["self","thing","weight"] (ahz A):=by
 k_dat (T.F'30.ok,CN) "a"
 ·obtain ⟨x,n,th,w,rfl,_⟩:=h
  rfl
 ·obtain ⟨x,n,th,w,rfl,hK,hG,hn,th0,th1,w1,w2,q⟩:=h
  have e64:(2:Int) ^ 64=18446744073709551616:=by decide
  have r2:=hG.r2
  have r64:=hG.r64
  have lu:=oM hG.dn.g hG.dn.t hG.few
  have su:=hG.dn.g.small
  have hrm:=hG.dn.r
  obtain ⟨W,okf⟩:=hG.wn.ok
  refine ⟨_,(aq (cR (dW (aC (pv 0) rfl) T.fK T.uU (aib T) tb_g% T.b'24 .nil bG (ao (pv 1) (ao (pv 2) aB))))
   (aq (cR (dW (aC (pv 0) rfl) T.bT T.DN (ok'8 T) tb_g% T.b'8 .nil bG (ao (pv 1) (ao (pv 2) aB))))
   (aq (cR (dW (aC (pv 0) rfl) T.dJ T.wH (ah5 T) tb_g% T.b'13 .nil bG (ao aA aB)))
   (aF (d9 (aR uH (pv 1) (aC (pv 0) rfl) (aX _)) (aF (cR (dW (aC (pv 0) rfl) T.mL T.Iz (ok'28 T) tb_g% T.b'28 .nil bG (ao (pv 1) (ao (pv 2) aB))))) cQ))))),?_⟩
  refine ⟨_,rfl,rdF hK.o T.bQ T.Dw (Fe ..) ⟨x.wn.p,x.wn.dx,_,rfl,hK.wn.o,Z0 _ _ _ _ tb_g% tb_g% tb_g% tb_g%,_,rfl,_,rfl,x.wn.p,x.wn.dx,x.wn.d,x.room,x.wn.t,x.wn.l,th,w,x.wn.c,rfl,hK.wn.o,hK.wn.d,okf.nd,okf.pos,w1,by have:=okf.len;lia,fun d1 c1 cut H1 hd1 ft o1 e1 b1=>?_⟩⟩
  have P1:=hK.pp.setW (f:=⟨x.wn.p,x.wn.dx,d1,x.wn.t+w,x.wn.l+cut,c1⟩) rfl b1 ⟨o1,e1⟩
  have f1:Far A x.pts H H1:=Far.of (by simp [KS.pts]) hK.wn.o b1
  refine ⟨_,rfl,rdF (f1.pb _ _ hK.o hK.nk) T.bQ T.Dz (Fg ..) ⟨x.dn.p,x.dn.x.dx,_,rfl,P1.dn.o,rgN tb_g%,_,rfl,_,rfl,x.dn.p,x.dn.x.dx,x.dn.x.a,x.dn.x.bs,x.dn.x.r,x.dn.x.tt,x.dn.x.ov,x.dn.x.un,x.dn.x.tn,th,w,x.dn.x.mi,x.dn.x.ma,x.dn.x.ls,rfl,P1.dn,hG.dn.g.r2,hG.dn.g.r64,by lia,by rw [e64];lia,by lia,fun l hl=>by have:=su l hl;lia,lu.2,fun a' bs' out tn' ov' un' H2 st rn b2 na2 nb2=>?_⟩⟩
  have P2:=P1.setD (f:=⟨x.dn.p,⟨x.dn.x.dx,a',bs',x.dn.x.r,x.dn.x.tt+w,ov',un',tn',_,_,out⟩⟩) rfl b2 rn
  have f2:=f1.trans (Far.of (A:=A) (ps:=x.pts) (by simp [KS.pts]) P1.dn.o b2)
  refine ⟨_,rfl,rdF (f2.pb _ _ hK.o hK.nk) T.bQ T.uP (kZ ..) ⟨x.wi.p,x.wi.dx,_,rfl,P2.wi.o,KY _ _ _ _ tb_g% tb_g% tb_g% tb_g%,x.wi.p,x.wi.dx,x.wi.l,x.room,x.reach,x.wi.c,1,x.wi.ps,rfl,P2.wi,by have:=hG.aa4;lia,by lia,by lia,fun l3 ps3 H3 eb3 wn3 b3 nl3=>?_⟩⟩
  have P3:=P2.setI (f:=⟨x.wi.p,x.wi.dx,l3,x.wi.c+1,ps3⟩) rfl b3 wn3
  have f3:=f2.trans (Far.of (A:=A) (ps:=x.pts) (by simp [KS.pts]) P2.wi.o b3)
  have em:∀ c∈x.up.x.a::a'::l3::x.di.l::(x.up.x.bs++bs'),c∈x.ems\/H c=none:=fun c m=>by
   unfold KS.ems
   simp only [cU,dg] at m ⊢
   rcases m with rfl | rfl | rfl | rfl | m | m
   ·exact .inl (.inl rfl)
   ·exact .inr (f1.none P1.live na2)
   ·exact .inr (f2.none P2.live nl3)
   ·exact .inl (.inr (.inr (.inr (.inl rfl))))
   ·exact .inl (.inr (.inr (.inr (.inr (.inl m)))))
   ·rcases nb2 c m with m | n
    ·exact .inl (.inr (.inr (.inr (.inr (.inr m)))))
    ·exact .inr (f1.none P1.live n)
  have o3:=f3.pb _ _ hK.o hK.nk
  refine ⟨_,rfl,_,rfl,rdF o3 T.bQ T.wG (sS ..) ⟨_,_,rfl,rfl,_,rfl,eF (fun hs=>?_) (fun hs=>?_)⟩⟩
  ·have hs:th<x.span:=of_decide_eq_true hs
   refine ⟨_,rfl,rdF o3 T.bQ T.DK (sU ..) ⟨x.ba.p,x.ba.dx,_,rfl,P3.ba.o,aic _ _ tb_g% tb_g%,_,rfl,_,rfl,x.ba.p,x.ba.dx,x.ba.l,x.span,th,w,x.ba.q,rfl,P3.ba,th0,by rw [e64];lia,fun l5 H5 bn5 b5 nl5=>?_⟩⟩
   have P5:=P3.setB (f:=⟨x.ba.p,x.ba.dx,l5,_⟩) rfl b5 bn5
   have f5:=f3.trans (Far.of (A:=A) (ps:=x.pts) (by simp [KS.pts]) P3.ba.o b5)
   exact q _ H5 (P5.kp (f5.pb _ _ hK.o hK.nk) hK.nk) ⟨⟨rfl,rfl,rfl,rfl,rfl,rfl⟩,rfl,⟨cut,ft,rfl,rfl⟩,rfl,⟨rfl,rfl,rfl,rfl,st⟩,⟨rfl,eb3⟩,rfl,(if_pos hs).symm⟩ f5 em
  ·have hs:¬ th<x.span:=fun z=>hs (decide_eq_true z)
   exact q _ H3 (P3.kp o3 hK.nk) ⟨⟨rfl,rfl,rfl,rfl,rfl,rfl⟩,rfl,⟨cut,ft,rfl,rfl⟩,rfl,⟨rfl,rfl,rfl,rfl,st⟩,⟨rfl,eb3⟩,rfl,(if_neg hs).symm⟩ f3 em
noncomputable def ahA (A:Ad):Sp:=fun vs H Q _=>∃ (x:KS) (n:Nat) (w:Int),vs=[.ref x.k,.int w]/\Kp A H x/\Kh x n /\
 ∀ (x':KS) (H':Hp),Kp A H' x'->SI w x x'->Far A x.pts H H'->Em H x x'->Q .non H'
theorem ok'31 (T:Tx K mg A):cY P w K mg base CX0 6 A.V9 A.mD ["self","many"] (ahA A):=by
 k_dat (T.F'31.ok,CP) "a"
 ·obtain ⟨x,n,w,rfl,_⟩:=h
  rfl
 ·obtain ⟨x,n,w,rfl,hK,hG,q⟩:=h
  have r2:=hG.r2
  have r64:=hG.r64
  have few:=hG.few
  refine ⟨_,(aF (cR (dW (aC (pv 0) rfl) T.dJ T.wH (ah5 T) tb_g% T.b'13 .nil bG (ao (pv 1) aB)))),?_⟩
  refine ⟨_,rfl,rdF hK.o T.bQ T.uP (kZ ..) ⟨x.wi.p,x.wi.dx,_,rfl,hK.wi.o,KY _ _ _ _ tb_g% tb_g% tb_g% tb_g%,_,rfl,x.wi.p,x.wi.dx,x.wi.l,x.room,x.reach,x.wi.c,w,x.wi.ps,rfl,hK.wi,by have:=hG.aa4;lia,by lia,by lia,fun l3 ps3 H3 eb3 wn3 b3 nl3=>?_⟩⟩
  have P3:=hK.pp.setI (f:=⟨x.wi.p,x.wi.dx,l3,x.wi.c+w,ps3⟩) rfl b3 wn3
  have f3:Far A x.pts H H3:=Far.of (by simp [KS.pts]) hK.wi.o b3
  exact q _ H3 (P3.kp (f3.pb _ _ hK.o hK.nk) hK.nk) ⟨⟨rfl,rfl,rfl,rfl,rfl,rfl⟩,rfl,rfl,rfl,rfl,⟨rfl,eb3⟩,rfl,rfl⟩ f3 fun c m=>by
   have m:c∈x.up.x.a::x.dn.x.a::l3::x.di.l::(x.up.x.bs++x.dn.x.bs):=m
   unfold KS.ems
   simp only [cU,dg] at m ⊢
   rcases m with rfl | rfl | rfl | rfl | m | m
   ·exact .inl (.inl rfl)
   ·exact .inl (.inr (.inl rfl))
   ·exact .inr nl3
   ·exact .inl (.inr (.inr (.inr (.inl rfl))))
   ·exact .inl (.inr (.inr (.inr (.inr (.inl m)))))
   ·exact .inl (.inr (.inr (.inr (.inr (.inr m)))))
open MK
noncomputable def Qc (A:Ad):Sp:=fun vs H Q _=>∃ (k dk:Addr) (room:Nat) (reach span:Int),vs=[.ref k,.int room,.int reach,.int span]/\H k=some (.ins A.bw dk [])/\2<=room/\room<=64/\room % 2=0 /\
 ∀ (x:KS) (H':Hp),Kp A H' x->Eqp x (K0 room reach span)->x.k=k->(∀ b∈x.pts,H b=none)->(∀ b∈x.ems,H b=none)->But k H H'->Q .non H'
noncomputable abbrev kI (room:Nat) (reach span:Int):List (Str × V):=bU "span" (.int span) (bU "reach" (.int reach) (bU "room" (.int room) []))
noncomputable abbrev kI1 (room:Nat) (reach span:Int) (p1:Addr):List (Str × V):=bU "came" (.ref p1) (kI room reach span)
noncomputable abbrev kI2 (room:Nat) (reach span:Int) (p1 p2:Addr):List (Str × V):=bU "went" (.ref p2) (kI1 room reach span p1)
noncomputable abbrev kI3 (room:Nat) (reach span:Int) (p1 p2 p3:Addr):List (Str × V):=bU "up" (.ref p3) (kI2 room reach span p1 p2)
noncomputable abbrev kI4 (room:Nat) (reach span:Int) (p1 p2 p3 p4:Addr):List (Str × V):=bU "down" (.ref p4) (kI3 room reach span p1 p2 p3)
noncomputable abbrev kI5 (room:Nat) (reach span:Int) (p1 p2 p3 p4 p5:Addr):List (Str × V):=bU "window" (.ref p5) (kI4 room reach span p1 p2 p3 p4)
noncomputable abbrev kI6 (room:Nat) (reach span:Int) (p1 p2 p3 p4 p5 p6:Addr):List (Str × V):=bU "seen" (.ref p6) (kI5 room reach span p1 p2 p3 p4 p5)
theorem aii (T:Tx K mg A):cY P w K mg base CX0 3 A.Qi A.mF ["self","room","reach","span"] (Qc A):=by
 k_dat (T.F'32.ok,CQ) "a"
 ·obtain ⟨k,dk,room,reach,span,rfl,_⟩:=h
  rfl
 ·obtain ⟨k,dk,room,reach,span,rfl,hk,r2,r64,ev,q⟩:=h
  refine ⟨_,(aq (aU (pv 0) (pv 1) rfl)
   (aq (aU (pv 0) (pv 2) rfl)
   (aq (aU (pv 0) (pv 3) rfl)
   (aq (aU (pv 0) (iH T.afB (afZ T) tb_g% rfl T.yF T.b'20 .nil bG (ao (pv 1) aB)) rfl)
   (aq (aU (pv 0) (iH T.afB (afZ T) tb_g% rfl T.yF T.b'20 .nil bG (ao (pv 1) aB)) rfl)
   (aq (aU (pv 0) (iH T.afA (ok'7 T) tb_g% rfl T.Pn T.b'7 .nil bG (ao (pv 1) aB)) rfl)
   (aq (aU (pv 0) (iH T.afA (ok'7 T) tb_g% rfl T.Pn T.b'7 .nil bG (ao (pv 1) aB)) rfl)
   (aq (aU (pv 0) (iH T.ah0 (ah4 T) tb_g% rfl T.RQ T.b'10 .nil bG (ao (pv 1) (ao (pv 2) aB))) rfl)
   (aq (aU (pv 0) (iH T.ah1 (ah7 T) tb_g% rfl T.Im T.b'16 .nil bG (ao (pv 1) aB)) rfl)
   (aF (aU (pv 0) (iH T.ah2 (aif T) tb_g% rfl T.KC T.b'26 .nil bG (ao (pv 3) aB)) rfl))))))))))),?_⟩
  refine ⟨_,rfl,_,rfl,k,_,dk,[],rfl,hk,T.bQ,T.zX,(by show 0<1000;decide),?_⟩
  refine ⟨_,rfl,_,rfl,k,_,dk,_,rfl,aj,T.bQ,T.Du,(by show 1<1000;decide),?_⟩
  refine ⟨_,rfl,_,rfl,k,_,dk,_,rfl,aj,T.bQ,T.wG,(by show 2<1000;decide),?_⟩
  rw [cJ,cJ]
  have b0:But k H (upd H k (.ins A.bw dk (kI room reach span))):=But.upd
  have o0:(upd H k (.ins A.bw dk (kI room reach span))) k=some (.ins A.bw dk (kI room reach span)):=aj
  generalize upd H k (.ins A.bw dk (kI room reach span))=G0 at b0 o0 ⊢
  refine ⟨_,rfl,fun p1 dx1 n1 m1 z1=>⟨p1,dx1,(room:Int),rfl,aj,fun d1 I1 hd1 e1 g1 bt1=>⟨rfl,?_⟩⟩⟩
  have s1:Same G0 I1:=fun b o e=>bt1 b o (by rw [au (ak e n1),au (ak e m1)];exact e) (ak e n1)
  have nk1:p1≠k:=aK (ak o0 n1)
  have ok1:=s1 _ _ o0
  k_dat (k,dk,ok1,T.bQ,T.Dv,3) "e"
  have u1:But k I1 (upd I1 k (.ins A.bw dk (kI1 room reach span p1))):=But.upd
  have F1:sV A I1 room ⟨p1,dx1,d1,0,0,[]⟩:=⟨e1,g1⟩
  replace F1:=F1.but u1 ok1 nk1
  have o1:(upd I1 k (.ins A.bw dk (kI1 room reach span p1))) k=some (.ins A.bw dk (kI1 room reach span p1)):=aj
  have b1:But k H (upd I1 k (.ins A.bw dk (kI1 room reach span p1))):=(b0.trans (s1.but k)).trans u1
  have v1:H p1=none:=cW b0 n1 nk1
  generalize upd I1 k (.ins A.bw dk (kI1 room reach span p1))=G1 at u1 o1 b1 F1 ⊢
  refine ⟨_,rfl,fun p2 dx2 n2 m2 z2=>⟨p2,dx2,(room:Int),rfl,aj,fun d2 I2 hd2 e2 g2 bt2=>⟨rfl,?_⟩⟩⟩
  have s2:Same G1 I2:=fun b o e=>bt2 b o (by rw [au (ak e n2),au (ak e m2)];exact e) (ak e n2)
  have q12:p1≠p2:=ak F1.o n2
  have nk2:p2≠k:=aK (ak o1 n2)
  have ok2:=s2 _ _ o1
  k_dat (k,dk,ok2,T.bQ,T.Dw,4) "e"
  have u2:But k I2 (upd I2 k (.ins A.bw dk (kI2 room reach span p1 p2))):=But.upd
  have F2:sV A I2 room ⟨p2,dx2,d2,0,0,[]⟩:=⟨e2,g2⟩
  replace F2:=F2.but u2 ok2 nk2
  replace F1:=(F1.same s2).but u2 ok2 nk1
  have o2:(upd I2 k (.ins A.bw dk (kI2 room reach span p1 p2))) k=some (.ins A.bw dk (kI2 room reach span p1 p2)):=aj
  have b2:But k H (upd I2 k (.ins A.bw dk (kI2 room reach span p1 p2))):=(b1.trans (s2.but k)).trans u2
  have v2:H p2=none:=cW b1 n2 nk2
  generalize upd I2 k (.ins A.bw dk (kI2 room reach span p1 p2))=G2 at u2 o2 b2 F1 F2 ⊢
  refine ⟨_,rfl,fun p3 dx3 n3 m3 z3=>⟨p3,dx3,(room:Int),rfl,aj,fun d3 I3 hd3 e3 g3 bt3=>⟨rfl,?_⟩⟩⟩
  have s3:Same G2 I3:=fun b o e=>bt3 b o (by rw [au (ak e n3),au (ak e m3)];exact e) (ak e n3)
  have q13:p1≠p3:=ak F1.o n3
  have q23:p2≠p3:=ak F2.o n3
  have nk3:p3≠k:=aK (ak o2 n3)
  have ok3:=s3 _ _ o2
  k_dat (k,dk,ok3,T.bQ,T.Dy,5) "e"
  have u3:But k I3 (upd I3 k (.ins A.bw dk (kI3 room reach span p1 p2 p3))):=But.upd
  have F3:Rn A I3 p3 dx3 d3 [] room 0 0 0 0 none none []:=Rn.new e3 g3
  replace F3:=F3.but u3 ok3 nk3
  replace F1:=(F1.same s3).but u3 ok3 nk1
  replace F2:=(F2.same s3).but u3 ok3 nk2
  have o3:(upd I3 k (.ins A.bw dk (kI3 room reach span p1 p2 p3))) k=some (.ins A.bw dk (kI3 room reach span p1 p2 p3)):=aj
  have b3:But k H (upd I3 k (.ins A.bw dk (kI3 room reach span p1 p2 p3))):=(b2.trans (s3.but k)).trans u3
  have vd3:H d3=none:=by
   have y:(upd (upd G2 dx3 (.own p3)) p3 (.ins A.cX dx3 [])) d3=none:=hd3
   have np:d3≠p3:=fun z=>by rw [z,aj] at y;cases y
   rw [au np] at y
   have nq:d3≠dx3:=fun z=>by rw [z,aj] at y;cases y
   rw [au nq] at y
   exact cW b2 y (aK (ak o2 y))
  have v3:H p3=none:=cW b2 n3 nk3
  generalize upd I3 k (.ins A.bw dk (kI3 room reach span p1 p2 p3))=G3 at u3 o3 b3 F1 F2 F3 ⊢
  refine ⟨_,rfl,fun p4 dx4 n4 m4 z4=>⟨p4,dx4,(room:Int),rfl,aj,fun d4 I4 hd4 e4 g4 bt4=>⟨rfl,?_⟩⟩⟩
  have s4:Same G3 I4:=fun b o e=>bt4 b o (by rw [au (ak e n4),au (ak e m4)];exact e) (ak e n4)
  have q14:p1≠p4:=ak F1.o n4
  have q24:p2≠p4:=ak F2.o n4
  have q34:p3≠p4:=ak F3.o n4
  have nk4:p4≠k:=aK (ak o3 n4)
  have ok4:=s4 _ _ o3
  k_dat (k,dk,ok4,T.bQ,T.Dz,6) "e"
  have u4:But k I4 (upd I4 k (.ins A.bw dk (kI4 room reach span p1 p2 p3 p4))):=But.upd
  have F4:Rn A I4 p4 dx4 d4 [] room 0 0 0 0 none none []:=Rn.new e4 g4
  replace F4:=F4.but u4 ok4 nk4
  replace F1:=(F1.same s4).but u4 ok4 nk1
  replace F2:=(F2.same s4).but u4 ok4 nk2
  replace F3:=(F3.same s4).but u4 ok4 nk3
  have o4:(upd I4 k (.ins A.bw dk (kI4 room reach span p1 p2 p3 p4))) k=some (.ins A.bw dk (kI4 room reach span p1 p2 p3 p4)):=aj
  have b4:But k H (upd I4 k (.ins A.bw dk (kI4 room reach span p1 p2 p3 p4))):=(b3.trans (s4.but k)).trans u4
  have vd4:H d4=none:=by
   have y:(upd (upd G3 dx4 (.own p4)) p4 (.ins A.cX dx4 [])) d4=none:=hd4
   have np:d4≠p4:=fun z=>by rw [z,aj] at y;cases y
   rw [au np] at y
   have nq:d4≠dx4:=fun z=>by rw [z,aj] at y;cases y
   rw [au nq] at y
   exact cW b3 y (aK (ak o3 y))
  have v4:H p4=none:=cW b3 n4 nk4
  generalize upd I4 k (.ins A.bw dk (kI4 room reach span p1 p2 p3 p4))=G4 at u4 o4 b4 F1 F2 F3 F4 ⊢
  refine ⟨_,rfl,_,rfl,fun p5 dx5 n5 m5 z5=>⟨p5,dx5,(room:Int),reach,rfl,aj,fun d5 I5 hd5 e5 g5 bt5=>⟨rfl,?_⟩⟩⟩
  have s5:Same G4 I5:=fun b o e=>bt5 b o (by rw [au (ak e n5),au (ak e m5)];exact e) (ak e n5)
  have q15:p1≠p5:=ak F1.o n5
  have q25:p2≠p5:=ak F2.o n5
  have q35:p3≠p5:=ak F3.o n5
  have q45:p4≠p5:=ak F4.o n5
  have nk5:p5≠k:=aK (ak o4 n5)
  have ok5:=s5 _ _ o4
  k_dat (k,dk,ok5,T.bQ,T.uP,7) "e"
  have u5:But k I5 (upd I5 k (.ins A.bw dk (kI5 room reach span p1 p2 p3 p4 p5))):=But.upd
  have F5:Wn A I5 p5 dx5 d5 room reach 0 []:=⟨e5,⟨g5,fun _ h=>(nomatch h)⟩⟩
  replace F5:=F5.but u5 ok5 nk5
  replace F1:=(F1.same s5).but u5 ok5 nk1
  replace F2:=(F2.same s5).but u5 ok5 nk2
  replace F3:=(F3.same s5).but u5 ok5 nk3
  replace F4:=(F4.same s5).but u5 ok5 nk4
  have o5:(upd I5 k (.ins A.bw dk (kI5 room reach span p1 p2 p3 p4 p5))) k=some (.ins A.bw dk (kI5 room reach span p1 p2 p3 p4 p5)):=aj
  have b5:But k H (upd I5 k (.ins A.bw dk (kI5 room reach span p1 p2 p3 p4 p5))):=(b4.trans (s5.but k)).trans u5
  have vd5:H d5=none:=by
   have y:(upd (upd G4 dx5 (.own p5)) p5 (.ins A.gW dx5 [])) d5=none:=hd5
   have np:d5≠p5:=fun z=>by rw [z,aj] at y;cases y
   rw [au np] at y
   have nq:d5≠dx5:=fun z=>by rw [z,aj] at y;cases y
   rw [au nq] at y
   exact cW b4 y (aK (ak o4 y))
  have v5:H p5=none:=cW b4 n5 nk5
  generalize upd I5 k (.ins A.bw dk (kI5 room reach span p1 p2 p3 p4 p5))=G5 at u5 o5 b5 F1 F2 F3 F4 F5 ⊢
  refine ⟨_,rfl,fun p6 dx6 n6 m6 z6=>⟨p6,dx6,(room:Int),rfl,aj,fun d6 I6 hd6 e6 g6 bt6=>⟨rfl,?_⟩⟩⟩
  have s6:Same G5 I6:=fun b o e=>bt6 b o (by rw [au (ak e n6),au (ak e m6)];exact e) (ak e n6)
  have q16:p1≠p6:=ak F1.o n6
  have q26:p2≠p6:=ak F2.o n6
  have q36:p3≠p6:=ak F3.o n6
  have q46:p4≠p6:=ak F4.o n6
  have q56:p5≠p6:=ak F5.o n6
  have nk6:p6≠k:=aK (ak o5 n6)
  have ok6:=s6 _ _ o5
  k_dat (k,dk,ok6,T.bQ,T.DG,8) "e"
  have u6:But k I6 (upd I6 k (.ins A.bw dk (kI6 room reach span p1 p2 p3 p4 p5 p6))):=But.upd
  have F6:Dn A I6 p6 dx6 d6 room 0 0 (srt (My.up 0 [])):=⟨e6,by rw [show srt (My.up 0 [])=[] from vX.mp (fZ _)];exact g6⟩
  replace F6:=F6.but u6 ok6 nk6
  replace F1:=(F1.same s6).but u6 ok6 nk1
  replace F2:=(F2.same s6).but u6 ok6 nk2
  replace F3:=(F3.same s6).but u6 ok6 nk3
  replace F4:=(F4.same s6).but u6 ok6 nk4
  replace F5:=(F5.same s6).but u6 ok6 nk5
  have o6:(upd I6 k (.ins A.bw dk (kI6 room reach span p1 p2 p3 p4 p5 p6))) k=some (.ins A.bw dk (kI6 room reach span p1 p2 p3 p4 p5 p6)):=aj
  have b6:But k H (upd I6 k (.ins A.bw dk (kI6 room reach span p1 p2 p3 p4 p5 p6))):=(b5.trans (s6.but k)).trans u6
  have vd6:H d6=none:=by
   have y:(upd (upd G5 dx6 (.own p6)) p6 (.ins A.gK dx6 [])) d6=none:=hd6
   have np:d6≠p6:=fun z=>by rw [z,aj] at y;cases y
   rw [au np] at y
   have nq:d6≠dx6:=fun z=>by rw [z,aj] at y;cases y
   rw [au nq] at y
   exact cW b5 y (aK (ak o5 y))
  have v6:H p6=none:=cW b5 n6 nk6
  generalize upd I6 k (.ins A.bw dk (kI6 room reach span p1 p2 p3 p4 p5 p6))=G6 at u6 o6 b6 F1 F2 F3 F4 F5 F6 ⊢
  refine ⟨_,rfl,fun p7 dx7 n7 m7 z7=>⟨p7,dx7,span,rfl,aj,fun d7 I7 hd7 e7 bt7=>⟨rfl,?_⟩⟩⟩
  have s7:Same G6 I7:=fun b o e=>bt7 b o (by rw [au (ak e n7),au (ak e m7)];exact e) (ak e n7)
  have q17:p1≠p7:=ak F1.o n7
  have q27:p2≠p7:=ak F2.o n7
  have q37:p3≠p7:=ak F3.o n7
  have q47:p4≠p7:=ak F4.o n7
  have q57:p5≠p7:=ak F5.o n7
  have q67:p6≠p7:=ak F6.o n7
  have nk7:p7≠k:=aK (ak o6 n7)
  have ok7:=s7 _ _ o6
  k_dat (k,dk,ok7,T.bQ,T.DK,9) "e"
  have u7:But k I7 (upd I7 k (.ins A.bw dk (bU "balance" (.ref p7) (kI6 room reach span p1 p2 p3 p4 p5 p6)))):=But.upd
  have F7:Bn A I7 p7 dx7 d7 span Z1:=e7
  replace F7:=F7.but u7 ok7 nk7
  replace F1:=(F1.same s7).but u7 ok7 nk1
  replace F2:=(F2.same s7).but u7 ok7 nk2
  replace F3:=(F3.same s7).but u7 ok7 nk3
  replace F4:=(F4.same s7).but u7 ok7 nk4
  replace F5:=(F5.same s7).but u7 ok7 nk5
  replace F6:=(F6.same s7).but u7 ok7 nk6
  have o7:(upd I7 k (.ins A.bw dk (bU "balance" (.ref p7) (kI6 room reach span p1 p2 p3 p4 p5 p6)))) k=some (.ins A.bw dk (bU "balance" (.ref p7) (kI6 room reach span p1 p2 p3 p4 p5 p6))):=aj
  have b7:But k H (upd I7 k (.ins A.bw dk (bU "balance" (.ref p7) (kI6 room reach span p1 p2 p3 p4 p5 p6)))):=(b6.trans (s7.but k)).trans u7
  have vd7:H d7=none:=by
   have y:(upd (upd G6 dx7 (.own p7)) p7 (.ins A.qx dx7 [])) d7=none:=hd7
   have np:d7≠p7:=fun z=>by rw [z,aj] at y;cases y
   rw [au np] at y
   have nq:d7≠dx7:=fun z=>by rw [z,aj] at y;cases y
   rw [au nq] at y
   exact cW b6 y (aK (ak o6 y))
  have v7:H p7=none:=cW b6 n7 nk7
  generalize upd I7 k (.ins A.bw dk (bU "balance" (.ref p7) (kI6 room reach span p1 p2 p3 p4 p5 p6)))=G7 at u7 o7 b7 F1 F2 F3 F4 F5 F6 F7 ⊢
  rw [akC] at o7
  refine q ⟨k,dk,room,reach,span,⟨p1,dx1,d1,0,0,[]⟩,⟨p2,dx2,d2,0,0,[]⟩,⟨p3,⟨dx3,d3,[],room,0,0,0,0,none,none,[]⟩⟩,⟨p4,⟨dx4,d4,[],room,0,0,0,0,none,none,[]⟩⟩,⟨p5,dx5,d5,0,[]⟩,⟨p6,dx6,d6,0,0,[]⟩,⟨p7,dx7,d7,Z1⟩⟩ G7 ⟨o7,F1,F2,F3,F4,F5,F6,F7,?_⟩
   ⟨rfl,rfl,rfl,⟨rfl,rfl,rfl⟩,⟨rfl,rfl,rfl⟩,⟨rfl,rfl,rfl,rfl,rfl,rfl,rfl,rfl⟩,⟨rfl,rfl,rfl,rfl,rfl,rfl,rfl,rfl⟩,⟨rfl,rfl⟩,⟨rfl,rfl,rfl⟩,rfl⟩ rfl ?_ ?_ b7
  ·show [k,p1,p2,p3,p4,p5,p6,p7].Nodup
   simp only [jT,cU,jd,or_false,not_or,ud,and_true,not_false_eq_true]
   exact ⟨⟨aK nk1,aK nk2,aK nk3,aK nk4,aK nk5,aK nk6,aK nk7⟩,⟨q12,q13,q14,q15,q16,q17⟩,⟨q23,q24,q25,q26,q27⟩,⟨q34,q35,q36,q37⟩,⟨q45,q46,q47⟩,⟨q56,q57⟩,q67⟩
  ·intro b m
   unfold KS.pts at m
   simp only [cU,jd,or_false] at m
   rcases m with rfl | rfl | rfl | rfl | rfl | rfl | rfl
   all_goals assumption
  ·intro b m
   unfold KS.ems at m
   simp only [cU,dg,jd,or_false] at m
   rcases m with rfl | rfl | rfl | rfl
   all_goals assumption
open MK
noncomputable def spMix:Sp:=fun vs H Q _=>∃ c f p:Int,vs=[.int c,.int f,.int p]/\0<f/\f<2 ^ 64/\0<p/\∀ v:Int,0<=v->v<p->Q (.int v) H
theorem Sh (T:Tx K mg A):cY P w K mg base CX0 1 A.Wa A.Pj ["_law_cell","_law_factor","_law_prime"] spMix:=by
 k_dat (T.aaU.ok,afN) "a"
 ·obtain ⟨c,f,p,rfl,_⟩:=h
  rfl
 ·obtain ⟨c,f,p,rfl,f0,f1,p0,q⟩:=h
  refine ⟨_,(aF (cC (aJ dF (aJ jc (pv 0) (pv 1)) (pv 2)))),?_⟩
  exact ⟨_,rfl,_,rfl,_,_,rfl,rfl,fB tb_g% f1,_,rfl,_,_,rfl,rfl,p0,q _ (qZ _ tb_g%) (yQ _ p0)⟩
noncomputable def spFar:Sp:=fun vs H Q _=>vs=[]/\∀ v:Int,0<=v->v<1152921504606846976->Q (.int v) H
theorem ok'34 (T:Tx K mg A):cY P w K mg base CX0 1 A.Wb A.rZ [] spFar:=by
 k_dat (T.F'34.ok,lB) "a"
 ·obtain ⟨rfl,_⟩:=h
  rfl
 ·obtain ⟨rfl,q⟩:=h
  refine ⟨_,(aq (aV (i:=0) lB.nd rfl (Or.inl rfl) aA)
   (aq (rE oX rfl (jC rfl T.pI (ao aA aB)) (gM (i:=1) lB.nd rfl (Or.inl rfl)) (aF (aV (i:=0) lB.nd rfl (Or.inl rfl) (aJ dF (aJ jc (pv 0) (aJ xY aA (aJ jc aA (pv 0)))) aA))))
   (aF (cC (pv 0))))),?_⟩
  refine ⟨5,rfl,by decide,by decide,?_⟩
  refine vo (fun i σ G=>∃ (v:Int) (y:Option V),σ=[some (.int v),y]/\0<=v/\v<1152921504606846976/\G=H) ⟨770093176312745717,none,rfl,by decide,by decide,rfl⟩ ?_ ?_
  ·rintro i σ G hi ⟨v,y,rfl,v0,v1,rfl⟩
   refine ⟨_,rfl,_,rfl,_,_,rfl,rfl,O3 (by decide) (by decide),_,_,rfl,rfl,_,_,rfl,rfl,O3 tb_g% tb_g%,_,_,rfl,rfl,(by show (0:Int)<1152921504606846976;decide),?_⟩
   exact ⟨_,_,rfl,qZ _ (by decide),yQ _ (by decide),rfl⟩
  ·rintro σ G ⟨v,y,rfl,v0,v1,rfl⟩
   exact ⟨_,rfl,q v v0 v1⟩
noncomputable def af4:Sp:=fun vs H Q _=>∃ c:Int,vs=[.int c]/\∀ (v:Int) (H':Hp),0<=v->v<1152921504606846976->Same H H'->Q (.int v) H'
theorem ok'35 (T:Tx K mg A):cY P w K mg base CX0 2 A.Wc A.sy ["_law_cell"] af4:=by
 k_dat (T.F'35.ok,qu) "a"
 ·obtain ⟨c,rfl,_⟩:=h
  rfl
 ·obtain ⟨c,rfl,q⟩:=h
  refine ⟨_,(aq (aV (i:=1) qu.nd rfl (Or.inl rfl) (aJ dF (pv 0) aA))
   (aq (d9 (aR uH (pv 1) aA (aX _)) (aF (cC (aJ dF (aJ gw (pv 0) aA) (cI (ixG (bN hr)) (gG (ao aA (ao aA aB))) (pv 1) (fun _ _=>rfl))))) cQ)
   (aq (d9 (aR mJ (pv 1) aA (aX _)) (aF (cC (aJ dF (aJ jc (aJ gw (pv 0) aA) aA) aA))) cQ)
   (aq (aV (i:=2) qu.nd rfl (Or.inl rfl) (aJ aeg (aJ bW aA (aJ dF (aJ gw (pv 0) aA) aA)) (aJ dF (aJ gw (pv 0) aA) aA)))
   (aF (cC (aJ dF (aJ jc (pv 2) (aer (ok'34 T) tb_g% rfl T.Px T.F'34.kp T.b'34 .nil bG)) aA))))))),?_⟩
  refine ⟨_,rfl,_,_,rfl,rfl,(by show (0:Int)<4;decide),?_⟩
  refine ⟨_,rfl,_,_,rfl,rfl,_,rfl,eF (fun h=>?_) (fun h=>?_)⟩
  ·have h:c % 4<2:=of_decide_eq_true h
   refine ⟨_,rfl,_,_,rfl,rfl,⟨by decide,by decide⟩,(by show 2<=sizeLine;decide),fun p hp=>⟨_,rfl,?_⟩⟩
   obtain ⟨v,hv,e⟩:=zM (ns:=[7,60]) (i:=c % 4) tb_g% (by show c % 4<2;lia)
   have hv:v=7\/v=60:=by simpa using hv
   refine dO (.inl (.inl aj)) (v:=.int v) e ⟨_,_,rfl,rfl,(by show (0:Int)<v;lia),?_⟩
   have a1:=qZ (c / 4) (show v≠0 by lia)
   have a2:=yQ (c / 4) (show 0<v by lia)
   exact q _ _ a1 (by show c / 4 % v<_;lia) (Same.new hp)
  refine ⟨_,rfl,rfl,_,rfl,eF (fun h=>?_) (fun h=>?_)⟩
  ·refine ⟨_,rfl,_,_,rfl,rfl,⟨by decide,by decide⟩,_,_,rfl,rfl,fB (by decide) (by decide),_,_,rfl,rfl,(by show (0:Int)<1152921504606846976;decide),?_⟩
   exact q _ _ (qZ _ (by decide)) (yQ _ (by decide)) (Same.refl H)
  ·refine ⟨_,rfl,_,_,rfl,rfl,⟨by decide,by decide⟩,_,_,rfl,rfl,(by show (0:Int)<40;decide),_,_,rfl,rfl,_,rfl,_,_,rfl,rfl,⟨by decide,by decide⟩,_,_,rfl,rfl,(by show (0:Int)<50;decide),_,_,rfl,rfl,⟨by lia,by lia,?_⟩,?_⟩
   ·lia
   refine ⟨_,rfl,rfl,fun v v0 v1=>⟨_,_,rfl,rfl,fB tb_g% tb_g%,_,_,rfl,rfl,(by show (0:Int)<1152921504606846976;decide),?_⟩⟩
   exact q _ _ (qZ _ (by decide)) (yQ _ (by decide)) (Same.refl H)
noncomputable def aa5:Sp:=fun vs H Q _=>∃ c:Int,vs=[.int c]/\∀ v:Int,1<=v->v<=1000000000000->Q (.int v) H
theorem ok'36 (T:Tx K mg A):cY P w K mg base CX0 1 A.Wd A.ql ["_law_cell"] aa5:=by
 k_dat (T.F'36.ok,Jg) "a"
 ·obtain ⟨c,rfl,_⟩:=h
  rfl
 ·obtain ⟨c,rfl,q⟩:=h
  refine ⟨_,(aq (d9 (aR mJ (aJ dF (pv 0) aA) aA (aX _)) (aF (cC (aJ bW aA (aJ dF (aJ jc (aJ gw (pv 0) aA) aA) aA)))) cQ)
   (aF (cC (aJ bW aA (aJ dF (aJ gw (pv 0) aA) aA))))),?_⟩
  refine ⟨_,rfl,_,_,rfl,rfl,(by show (0:Int)<5;decide),rfl,_,rfl,eF (fun h=>?_) (fun h=>?_)⟩
  ·refine ⟨_,rfl,_,_,rfl,rfl,⟨by decide,by decide⟩,_,_,rfl,rfl,fB (by decide) (by decide),_,_,rfl,rfl,(by show (0:Int)<1000000000000;decide),_,_,rfl,rfl,?_⟩
   exact q _ tb_g% tb_g%
  ·refine ⟨_,rfl,_,_,rfl,rfl,⟨by decide,by decide⟩,_,_,rfl,rfl,(by show (0:Int)<12;decide),_,_,rfl,rfl,?_⟩
   exact q _ tb_g% tb_g%
/-- a row: its kind,its thing,its weight -/
structure R3 where
 (kd th w:Int)
structure R3.ok (r:R3):Prop where
 k0:0<=r.kd
 k2:r.kd<=2
 t0:0<=r.th
 t1:r.th<1152921504606846976
 w1:1<=r.w
 w2:r.w<=1000000000000
noncomputable def r3V (r:R3):HO:=.tup [.int r.kd,.int r.th,.int r.w]
noncomputable def ahB:Sp:=fun vs H Q _=>∃ c:Int,vs=[.int c]/\∀ (t:Addr) (r:R3) (H':Hp),r.ok->H t=none->H' t=some (r3V r)->Same H H'->Q (.ref t) H'
theorem aij (T:Tx K mg A):cY P w K mg base CX0 3 A.Wf A.yD ["_law_cell"] ahB:=by
 k_dat (T.F'37.ok,pJ) "a"
 ·obtain ⟨c,rfl,_⟩:=h
  rfl
 ·obtain ⟨c,rfl,q⟩:=h
  refine ⟨_,(aq (aV (i:=1) pJ.nd rfl (Or.inl rfl) (cI (ixG (bN hr)) (gG (ao aA (ao aA (ao aA (ao aA (ao aA (ao aA (ao aA aB)))))))) (aJ dF (pv 0) aA) (fun _ _=>rfl)))
   (aq (aV (i:=2) pJ.nd rfl (Or.inl rfl) (bB (ok'35 T) tb_g% rfl T.Py T.F'35.kp T.b'35 .nil bG (ao (bB (Sh T) tb_g% rfl T.zY T.aaU.kp T.afH .nil bG (ao (pv 0) (ao aA (ao aA aB)))) aB)))
   (aq (aV (i:=3) pJ.nd rfl (Or.inl rfl) (bB (ok'36 T) tb_g% rfl T.Jy T.F'36.kp T.b'36 .nil bG (ao (bB (Sh T) tb_g% rfl T.zY T.aaU.kp T.afH .nil bG (ao (pv 0) (ao aA (ao aA aB)))) aB)))
   (aF (cC (xZ (ao (pv 1) (ao (pv 2) (ao (pv 3) aB))))))))),?_⟩
  refine ⟨(by show 7<=sizeLine;decide),fun p hp=>⟨_,rfl,_,_,rfl,rfl,(by show (0:Int)<7;decide),?_⟩⟩
  obtain ⟨kd,hkd,e⟩:=zM (ns:=[0,0,0,0,1,1,2]) (i:=c % 7) tb_g% (by show c % 7<7;lia)
  have hkd:0<=kd/\kd<=2:=by
   simp only [cU,jd,or_false] at hkd
   lia
  refine dO (.inl (.inl aj)) (v:=.int kd) e ?_
  have s1:=Same.new (o:=.lst [.int 0,.int 0,.int 0,.int 0,.int 1,.int 1,.int 2]) hp
  generalize upd H p (.lst [.int 0,.int 0,.int 0,.int 0,.int 1,.int 1,.int 2])=H1 at s1 ⊢
  refine ⟨_,rfl,c,6364136223846793005,18446744073709551557,rfl,by decide,by decide,by decide,fun m _ _=>⟨m,rfl,fun th H2 t0 t1 s2=>?_⟩⟩
  refine ⟨_,rfl,c,69621,2147483629,rfl,by decide,by decide,by decide,fun m2 _ _=>⟨m2,rfl,fun w w1 w2=>?_⟩⟩
  exact ⟨_,rfl,_,rfl,_,rfl,by show 3<=sizeLine;decide,fun t ht=>q t ⟨kd,th,w⟩ _ ⟨hkd.1,hkd.2,t0,t1,w1,w2⟩ ((s1.trans s2).free ht) aj (s1.trans (s2.trans (Same.new ht)))⟩
noncomputable def ahC:Sp:=fun vs H Q _=>∃ c:Int,vs=[.int c]/\∀ (t:Addr) (room:Nat) (reach span:Int) (H':Hp),2<=room->room<=64->room % 2=0->1<=reach->H' t=some (.tup [.int room,.int reach,.int span])->Same H H'->Q (.ref t) H'
theorem rooms (h:v∈[2,4,2,6,8,64]):∃ r:Nat,v=r/\2<=r/\r<=64/\r % 2=0:=by
 simp only [cU,jd,or_false] at h
 exact ⟨v.toNat,by lia,by lia,by lia,by lia⟩
theorem ok'38 (T:Tx K mg A):cY P w K mg base CX0 1 A.Wg A.sE ["_law_cell"] ahC:=by
 k_dat (T.F'38.ok,lC) "a"
 ·obtain ⟨c,rfl,_⟩:=h
  rfl
 ·obtain ⟨c,rfl,q⟩:=h
  refine ⟨_,(aq (aV (i:=1) lC.nd rfl (Or.inl rfl) (cI (ixG (bN hr)) (gG (ao aA (ao aA (ao aA (ao aA (ao aA (ao aA aB))))))) (aJ dF (pv 0) aA) (fun _ _=>rfl)))
   (aq (aV (i:=2) lC.nd rfl (Or.inl rfl) (cI (ixG (bN hr)) (gG (ao aA (ao (aJ bW aA (aJ dF (aJ gw (pv 0) aA) aA)) (ao (aJ bW aA (aJ dF (aJ gw (pv 0) aA) aA)) aB)))) (aJ dF (aJ gw (pv 0) aA) aA) (fun _ _=>rfl)))
   (aq (aV (i:=3) lC.nd rfl (Or.inl rfl) (cI (ixG (bN hr)) (gG (ao (aJ bW aA (aJ dF (aJ gw (pv 0) aA) aA)) (ao aA (ao aA aB)))) (aJ dF (aJ gw (pv 0) aA) aA) (fun _ _=>rfl)))
   (aF (cC (xZ (ao (pv 1) (ao (pv 2) (ao (pv 3) aB))))))))),?_⟩
  refine ⟨(by show 6<=sizeLine;decide),fun p hp=>⟨_,rfl,_,_,rfl,rfl,(by show (0:Int)<6;decide),?_⟩⟩
  obtain ⟨rv,hrv,e⟩:=zM (ns:=[2,4,2,6,8,64]) (i:=c % 6) tb_g% (by show c % 6<6;lia)
  obtain ⟨room,rfl,r2,r64,ev⟩:=rooms hrv
  refine dO (.inl (.inl aj)) (v:=.int room) e ?_
  have s1:=Same.new (o:=.lst [.int 2,.int 4,.int 2,.int 6,.int 8,.int 64]) hp
  generalize upd H p (.lst [.int 2,.int 4,.int 2,.int 6,.int 8,.int 64])=H1 at s1 ⊢
  refine ⟨_,rfl,_,_,rfl,rfl,⟨by decide,by decide⟩,_,_,rfl,rfl,(by show (0:Int)<9;decide),_,_,rfl,rfl,_,rfl,_,_,rfl,rfl,⟨by decide,by decide⟩,_,_,rfl,rfl,(by show (0:Int)<1000000;decide),_,_,rfl,rfl,(by show 3<=sizeLine;decide),fun p2 hp2=>⟨_,rfl,_,_,rfl,rfl,⟨by decide,by decide⟩,_,_,rfl,rfl,(by show (0:Int)<3;decide),?_⟩⟩
  obtain ⟨reach,hre,e2⟩:=zM (ns:=[1000000000,1+c / 6 % 9,1+c / 6 % 1000000]) (i:=c / 6 % 3) tb_g% (by show c / 6 % 3<3;lia)
  refine dO (.inl (.inl aj)) (v:=.int reach) e2 ?_
  have s2:=s1.trans (Same.new (o:=.lst [.int 1000000000,.int (1+c / 6 % 9),.int (1+c / 6 % 1000000)]) hp2)
  generalize upd H1 p2 (.lst [.int 1000000000,.int (1+c / 6 % 9),.int (1+c / 6 % 1000000)])=H2 at s2 ⊢
  refine ⟨_,rfl,_,_,rfl,rfl,⟨by decide,by decide⟩,_,_,rfl,rfl,(by show (0:Int)<9;decide),_,_,rfl,rfl,(by show 3<=sizeLine;decide),fun p3 hp3=>⟨_,rfl,_,_,rfl,rfl,⟨by decide,by decide⟩,_,_,rfl,rfl,(by show (0:Int)<3;decide),?_⟩⟩
  obtain ⟨span,_,e3⟩:=zM (ns:=[1+c / 18 % 9,60,1000000000]) (i:=c / 18 % 3) tb_g% (by show c / 18 % 3<3;lia)
  refine dO (.inl (.inl aj)) (v:=.int span) e3 ?_
  have s3:=s2.trans (Same.new (o:=.lst [.int (1+c / 18 % 9),.int 60,.int 1000000000]) hp3)
  generalize upd H2 p3 (.lst [.int (1+c / 18 % 9),.int 60,.int 1000000000])=H3 at s3 ⊢
  simp only [cU,jd,or_false] at hre
  exact ⟨_,rfl,_,rfl,_,rfl,by show 3<=sizeLine;decide,fun t ht=>q t room reach span _ r2 r64 ev tb_g% aj (s3.trans (Same.new ht))⟩
/-- what a row does -/
noncomputable def SR (r:R3) (x x':KS):Prop:=if r.kd=0 then SP r.th r.w x x' else if r.kd=1 then ST r.th r.w x x' else SI r.w x x'
theorem SR.sb {r:R3} (h:SR r x x'):SB x x':=by
 unfold SR at h
 split at h
 ·exact h.sb
 ·split at h
  ·exact h.sb
  ·exact h.sb
theorem Kh.row {r:R3} (h:Kh x n) (hn:n<60000) (ok:r.ok) (hc:r.kd=0->(came x.di.C r.th).length<=700) (s:SR r x x'):Kh x' (n+1):=by
 unfold SR at s
 split at s
 ·exact h.put hn (hc ‹_›) s ok.w1 ok.w2
 ·split at s
  ·exact h.take hn s ok.w1 ok.w2
  ·exact h.idle hn s ok.w1
noncomputable def akJ (A:Ad):Sp:=fun vs H Q _=>∃ (x:KS) (n:Nat) (t:Addr) (r:R3),vs=[.ref x.k,.ref t]/\Kp A H x/\Kh x n/\n<60000/\H t=some (r3V r)/\r.ok /\
 ∀ (x':KS) (H':Hp),Kp A H' x'->SR r x x'->Far A x.pts H H'->Em H x x'->Q .non H'
theorem ok'39 (T:Tx K mg A):cY P w K mg base CX0 8 A.Wh A.Ik ["_law_keepsake","_law_row"] (akJ A):=by
 k_dat (T.F'39.ok,aaW) "a"
 ·obtain ⟨x,n,t,r,rfl,_⟩:=h
  rfl
 ·obtain ⟨x,n,t,r,rfl,hK,hG,hn,ht,ok,q⟩:=h
  unfold r3V at ht
  unfold SR at q
  refine ⟨_,(aF (d9 (aR mJ (cI (ixG (bN hr)) (pv 1) aA (fun _ _=>rfl)) aA (aX _)) (aF (cR (dW (pv 0) T.bQ T.IK (ok'29 T) tb_g% T.b'29 .nil bG (ao (cI (ixG (bN hr)) (pv 1) aA (fun _ _=>rfl)) (ao (cI (ixG (bN hr)) (pv 1) aA (fun _ _=>rfl)) aB))))) (aF (d9 (aR mJ (cI (ixG (bN hr)) (pv 1) aA (fun _ _=>rfl)) aA (aX _)) (aF (cR (dW (pv 0) T.bQ T.Ec (ok'30 T) tb_g% T.b'30 .nil bG (ao (cI (ixG (bN hr)) (pv 1) aA (fun _ _=>rfl)) (ao (cI (ixG (bN hr)) (pv 1) aA (fun _ _=>rfl)) aB))))) (aF (cR (dW (pv 0) T.bQ T.Ed (ok'31 T) tb_g% T.b'31 .nil bG (ao (cI (ixG (bN hr)) (pv 1) aA (fun _ _=>rfl)) aB)))))))),?_⟩
  refine ⟨_,rfl,eZ (.inl (.inl ht)) (v:=.int r.kd) rfl ⟨rfl,_,rfl,eF (fun h=>?_) (fun h=>?_)⟩⟩
  ·have h:r.kd=0:=V.int.inj (of_decide_eq_true h)
   simp only [if_pos h] at q
   exact ⟨_,rfl,x.k,x.dk,_,rfl,hK.o,kfN tb_g%,_,rfl,eZ (.inl (.inl ht)) (v:=.int r.th) rfl ⟨_,rfl,eZ (.inl (.inl ht)) (v:=.int r.w) rfl ⟨x,n,r.th,r.w,rfl,hK,hG,hn,ok.t0,ok.t1,ok.w1,ok.w2,q⟩⟩⟩
  have h:¬ r.kd=0:=fun z=>h (decide_eq_true (congrArg V.int z))
  simp only [if_neg h] at q
  refine ⟨_,rfl,eZ (.inl (.inl ht)) (v:=.int r.kd) rfl ⟨rfl,_,rfl,eF (fun h2=>?_) (fun h2=>?_)⟩⟩
  ·have h2:r.kd=1:=V.int.inj (of_decide_eq_true h2)
   simp only [if_pos h2] at q
   exact ⟨_,rfl,x.k,x.dk,_,rfl,hK.o,kfN tb_g%,_,rfl,eZ (.inl (.inl ht)) (v:=.int r.th) rfl ⟨_,rfl,eZ (.inl (.inl ht)) (v:=.int r.w) rfl ⟨x,n,r.th,r.w,rfl,hK,hG,hn,ok.t0,ok.t1,ok.w1,ok.w2,q⟩⟩⟩
  ·have h2:¬ r.kd=1:=fun z=>h2 (decide_eq_true (congrArg V.int z))
   simp only [if_neg h2] at q
   exact ⟨_,rfl,x.k,x.dk,_,rfl,hK.o,kfN tb_g%,_,rfl,eZ (.inl (.inl ht)) (v:=.int r.w) rfl ⟨x,n,r.w,rfl,hK,hG,q⟩⟩
open MK
noncomputable def af5 (A:Ad):Sp:=fun vs H Q _=>∃ (p dx d p' dx' d':Addr) (room:Nat) (t l t' l':Int) (c c':Tab),vs=[.ref p,.ref p']/\H p=some (.ins A.gY dx (fl room t l d))/\H d=some (.dK (emb c)) /\
 H p'=some (.ins A.gY dx' (fl room t' l' d'))/\H d'=some (.dK (emb c'))/\(keys c).Nodup/\(∀ p∈c,1<=p.2)/\(∀ p∈c',1<=p.2)/\(nJ c c').length<1000/\c.length+c'.length<=900 /\
 ∀ (x dxx e:Addr) (b:Tab) (cut:Int) (H':Hp),H x=none->H e=none->lW room (nJ c c') b cut->H' x=some (.ins A.gY dxx (fl room (t+t') (l+l'+cut) e))->H' e=some (.dK (emb b))->Same H H'->Q (.ref x) H'
theorem aa6 {d:Tab} (h:d[i]? = some p):nJ c (d.take (i+1))=put (nJ c (d.take i)) p.1 (low (nJ c (d.take i)) p.1+p.2):=by
 rw [take_snoc h,aau]
noncomputable def aa7 (A:Ad):Sp:=fun vs H Q E=>af5 A vs H Q E\/∃ (p dx p' dx' d d':Addr) (r r' t l t' l':Int),vs=[.ref p,.ref p']/\H p=some (.ins A.gY dx (fl r t l d))/\H p'=some (.ins A.gY dx' (fl r' t' l' d'))/\r≠r'/\E (.ref A.BW) none H
theorem aik (T:Tx K mg A):cY P w K mg base (CXE P w) 3 A.Wj A.jP ["one","other"] (aa7 A):=by
 k_dat (T.F'40.okE,fV) "a"
 ·rcases h with ⟨p,dx,d,p',dx',d',room,t,l,t',l',c,c',rfl,_⟩ | ⟨p,dx,p',dx',d,d',r,r',t,l,t',l',rfl,_⟩ <;> rfl
 ·skip
  refine ⟨_,(aq (d9 (PT.nox (aR sY (aC (pv 0) rfl) (aC (pv 1) rfl) (aX _))) (aF (qH JQ T.iK rfl T.qK (ao BZ aB))) cQ)
   (aq (PS.nox (aV (i:=2) fV.nd rfl (Or.inl rfl) (iH T.afB (afZ T) tb_g% rfl T.yF T.b'20 .nil bG (ao (aC (pv 0) rfl) aB))))
   (aq (PS.nox (aU (pv 2) (aJ bW (aC (pv 0) rfl) (aC (pv 1) rfl)) rfl))
   (aq (PS.nox (aU (pv 2) (aJ bW (aC (pv 0) rfl) (aC (pv 1) rfl)) rfl))
   (aq (PS.nox (aV (i:=3) fV.nd rfl (Or.inl rfl) (mU Hl (by rfl) T.afK acV (ao (aC (pv 0) rfl) aB))))
   (aq (PS.nox (Zh oX rfl (aC (pv 1) rfl) ⟨rfl,rfl⟩ (Xj rfl (qD (gM (i:=4) fV.nd rfl (Or.inl rfl)) (qD (gM (i:=5) fV.nd rfl (Or.inl rfl)) Og))) (aF (rD (aJ bW (QM (bN hr) (pv 3) (pv 4) aA ⟨rfl,rfl,rfl,rfl⟩) (pv 5)) (rC (pv 3) (pv 4) (setG (bN hr)))))))
   (aq (PS.nox (cR (dW (pv 2) T.fK T.uR (aia T) tb_g% T.b'23 .nil bG (ao (pv 3) aB))))
   (aF (PS.nox (cC (pv 2))))))))))),?_⟩
  rcases h with ⟨p,dx,d,p',dx',d',room,t,l,t',l',c,c',rfl,hp,hd,hp',hd',hn,pos,pos',h64,h900,q⟩ | ⟨p,dx,p',dx',d,d',r,r',t,l,t',l',rfl,hp,hp',hne,q⟩
  rotate_left
  ·refine ⟨_,rfl,rdF hp T.fK T.zV (vN _ _ _ _) ⟨_,rfl,rdF hp' T.fK T.zV (vN _ _ _ _) ⟨rfl,_,rfl,?_⟩⟩⟩
   have e:(!decide (V.int r=V.int r'))=true:=by rw [decide_eq_false (fun z=>hne (V.int.inj z))];rfl
   rw [e]
   exact Ea ⟨by show 1<=sizeLine;decide,q⟩
  refine ⟨_,rfl,rdF hp T.fK T.zV (vN _ _ _ _) ⟨_,rfl,rdF hp' T.fK T.zV (vN _ _ _ _) ⟨rfl,_,rfl,tu rfl ?_⟩⟩⟩
  refine ⟨_,rfl,rdF hp T.fK T.zV (vN _ _ _ _) fun x dxx nx ndx nex=>?_⟩
  refine ⟨x,dxx,_,rfl,aj,fun e0 H1 he0 e1 e2 bt=>⟨rfl,?_⟩⟩
  have s0:Same H (upd (upd H dxx (.own x)) x (.ins A.gY dxx [])):=fun b o e=>by
   rw [au (ak e nx),au (ak e ndx)];exact e
  have s1:Same H H1:=fun b o e=>bt b o (s0 b o e) (ak e nx)
  have nx1:∀ b o,H b=some o->b≠x:=fun b o e=>ak e nx
  refine ⟨_,rfl,rdF (s1 _ _ hp) T.fK T.zW (Ah _ _ _ _) ⟨_,rfl,rdF (s1 _ _ hp') T.fK T.zW (Ah _ _ _ _) ⟨_,_,rfl,rfl,_,rfl,x,_,dxx,_,rfl,e1,T.fK,T.zW,(by show 4<1000;decide),?_⟩⟩⟩
  rw [ZW]
  have k2:∀ b o,H b=some o->∀ u,(upd H1 x u) b=some o:=fun b o e u=>by rw [au (nx1 b o e)];exact s1 _ _ e
  refine ⟨_,rfl,rdF (k2 _ _ hp _) T.fK T.wD (Ai _ _ _ _) ⟨_,rfl,rdF (k2 _ _ hp' _) T.fK T.wD (Ai _ _ _ _) ⟨_,_,rfl,rfl,_,rfl,x,_,dxx,_,rfl,aj,T.fK,T.wD,(by show 4<1000;decide),?_⟩⟩⟩
  rw [ZX,cJ]
  refine ⟨_,rfl,rdF (k2 _ _ hp _) T.fK T.Ds (vO _ _ _ _) ⟨d,emb c,rfl,.inl (k2 _ _ hd _),fun g hg=>?_⟩⟩
  have ngx:x≠g:=fun z=>by rw [<- z,aj] at hg;cases hg
  have ng:∀ b o,H b=some o->b≠g:=fun b o e z=>by rw [<- z,k2 _ _ e] at hg;cases hg
  have k3:∀ b o,H b=some o->(upd (upd H1 x (.ins A.gY dxx (fl room (t+t') (l+l') e0))) g (.dK (emb c))) b=some o:=fun b o e=>by rw [au (ng b o e)];exact k2 b o e _
  refine ⟨_,rfl,rdF (k3 _ _ hp') T.fK T.Ds (vO _ _ _ _) ⟨d',emb c',rfl,k3 _ _ hd',fun o wm=>Ke (fun i σ H2=>∃ (y z:Option V),σ=[some (.ref p),some (.ref p'),some (.ref x),some (.ref g),y,z]/\H2 d'=some (.frz o (.dK (emb c')))/\H2 g=some (.dK (emb (nJ c (c'.take i))))/\H2 x=some (.ins A.gY dxx (fl room (t+t') (l+l') e0))/\(∀ b u,H b=some u->b≠d'->H2 b=some u))
   ⟨none,none,rfl,aj,?_,?_,fun b u e hb=>by rw [au hb];exact k3 b u e⟩ (fun i σ H2 ⟨_,_,_,h,_⟩=>h) ?_ ?_⟩⟩
  ·rw [au (aK (ng _ _ hd')),aj];rfl
  ·rw [au (aK (nx1 _ _ hd')),au ngx,aj]
  ·rintro i pp t2 σ H2 hi ⟨y,z,rfl,f1,f2,f3,f4⟩ ht
   obtain ⟨pr,hpr,rfl⟩:=aeN hi
   have m1:∀ b u,H2 b=some u->(upd H2 t2 (.tup [.int pr.1,.int pr.2])) b=some u:=fun b u e=>by rw [au (ak e ht)];exact e
   refine ⟨t2,_,rfl,.inl (.inl aj),rfl,_,_,rfl,_,_,rfl,rfl,?_⟩
   refine ⟨_,rfl,g,rfl,.inl ⟨_,.inl (m1 _ _ f2)⟩,_,rfl,_,ahR (.inl (m1 _ _ f2)),?_⟩
   rw [Zn]
   have hz:(emb (nJ c (c'.take i))).length<sizeLine:=by
    rw [rG]
    have:=zq (c'.take i) c
    rw [gJ] at this
    exact cL tb_g%
   refine ⟨_,rfl,_,_,rfl,rfl,_,rfl,_,rfl,XM (m1 _ _ f2) hz ?_⟩
   rw [Hv,<- aa6 hpr]
   have ngd:d'≠g:=ng _ _ hd'
   exact ⟨_,_,rfl,by rw [au ngd];exact m1 _ _ f1,aj,by rw [au ngx];exact m1 _ _ f3,fun b u e hb=>by rw [au (ng b u e)];exact m1 _ _ (f4 b u e hb)⟩
  ·rintro σ H2 ⟨y,z,rfl,f1,f2,f3,f4⟩
   rw [rG,qT] at f2
   refine ⟨d',emb c',o,wm,f1,?_⟩
   have ngd:g≠d':=aK (ng _ _ hd')
   have nxd:x≠d':=aK (nx1 _ _ hd')
   have f2':(upd H2 d' (.dK (emb c'))) g=some (.dK (emb (nJ c c'))):=by rw [au ngd];exact f2
   have f3':(upd H2 d' (.dK (emb c'))) x=some (.ins A.gY dxx (fl room (t+t') (l+l') e0)):=by rw [au nxd];exact f3
   have f4':Same H (upd H2 d' (.dK (emb c'))):=fun b u e=>by
    by_cases hb:b=d'
    ·subst hb;rw [aj,<- e,hd']
    ·rw [au hb];exact f4 b u e hb
   refine ⟨_,rfl,x,dxx,_,rfl,f3',Z0 _ _ _ _ tb_g% tb_g% tb_g% tb_g%,_,rfl,x,dxx,g,e0,room,t+t',l+l',nJ c c',rfl,f3',f2',O2 _ hn,Ht _ pos pos',h64,fun e' b' cut H3 n3 fit g3 g4 bt3=>?_⟩
   exact ⟨_,rfl,q x dxx e' b' cut H3 nx (f4'.free n3) fit g3 g4 fun b u e=>bt3 b u (f4' b u e) (nx1 b u e)⟩
noncomputable def af6:Sp:=fun vs H Q _=>∃ (a:Addr) (bs:List Addr) (ls:RG.Ls) (i:Nat),vs=[.ref a,.int (i:Int)]/\LL H a bs ls/\∀ (c:Addr) (H':Hp),H' c=some (.lst ((ls.getD i []).map V.int))->Same H H'->Q (.ref c) H'
theorem ail (T:Tx K mg A):cY P w K mg base CX0 1 A.Wk A.Cy ["lists","place"] af6:=by
 k_dat (T.F'41.ok,Yu) "a"
 ·obtain ⟨a,bs,ls,i,rfl,_⟩:=h
  rfl
 ·obtain ⟨a,bs,ls,i,rfl,hL,q⟩:=h
  refine ⟨_,(aF (cC (Qz (aR uH (pv 1) (bF cD (by rfl) T.g8 gQ (ao (pv 0) aB)) (aX _)) (cI (ixG (bN hr)) (pv 0) (pv 1) (fun _ _=>rfl)) (gG aB)))),?_⟩
  refine ⟨_,rfl,_,rfl,eX (.inl (.inl hL.o)) ⟨_,_,rfl,rfl,_,rfl,eF (fun h=>?_) (fun h=>?_)⟩⟩
  ·have hi:i<ls.length:=by
    have:=of_decide_eq_true h
    rw [bA,hL.n] at this
    lia
   obtain ⟨b,l,eb,el,hb⟩:=hL.at hi
   refine ⟨_,rfl,_,rfl,dO (.inl (.inl hL.o)) (v:=.ref b) (LL.ix eb) (q b H ?_ (Same.refl _))⟩
   rw [yM,el];exact hb
  ·have hi:ls.length<=i:=by
    have:¬ (i:Int)<((bs.map V.ref).length:Int):=fun z=>h (decide_eq_true z)
    rw [bA,hL.n] at this
    lia
   refine ⟨by show 0<=sizeLine;decide,fun c hc=>q c _ ?_ (Same.new hc)⟩
   rw [yM,yN hi];exact aj
noncomputable def ahD (A:Ad):Sp:=fun vs H Q _=>∃ (p dx a p' dx' a':Addr) (bs bs':List Addr) (r tt ov un tn tt' ov' un' tn':Int) (mi ma mi' ma':Option Int) (ls ls':RG.Ls),vs=[.ref p,.ref p']/\Rn A H p dx a bs r tt ov un tn mi ma ls/\Rn A H p' dx' a' bs' r tt' ov' un' tn' mi' ma' ls'/\2<=r/\r<=64/\ls.length<=400/\ls'.length<=400/\(∀ k∈RG.join ls ls',k.length<=200)/\RG.val ls<2 ^ 400/\RG.val ls'<2 ^ 400 /\
 ∀ (z dz g:Addr) (cs:List Addr) (out:RG.Ls) (tn2 ov2 un2:Int) (H':Hp),RG.Stl r 0 (tn+tn') (ov+ov') (un+un') (RG.join ls ls') out tn2 ov2 un2->Rn A H' z dz g cs r (tt+tt') ov2 un2 tn2 (lo2 mi mi') (hi2 ma ma') out->H z=none->H g=none->(∀ c∈cs,H c=none)->Same H H'->Q (.ref z) H'
noncomputable def af7 (A:Ad):Sp:=fun vs H Q E=>ahD A vs H Q E\/∃ (p dx a p' dx' a':Addr) (bs bs':List Addr) (r tt ov un tn r' tt' ov' un' tn':Int) (mi ma mi' ma':Option Int) (ls ls':RG.Ls),vs=[.ref p,.ref p']/\Rn A H p dx a bs r tt ov un tn mi ma ls/\Rn A H p' dx' a' bs' r' tt' ov' un' tn' mi' ma' ls'/\r≠r'/\E (.ref A.BW) none H
theorem ain (T:Tx K mg A):cY P w K mg base (CXE P w) 5 A.Wl A.ou ["one","other"] (af7 A):=by
 k_dat (T.F'42.okE,jo) "a"
 ·rcases h with ⟨p,dx,a,p',dx',a',bs,bs',r,tt,ov,un,tn,tt',ov',un',tn',mi,ma,mi',ma',ls,ls',rfl,_⟩ | ⟨p,dx,a,p',dx',a',bs,bs',r,tt,ov,un,tn,r',tt',ov',un',tn',mi,ma,mi',ma',ls,ls',rfl,_⟩ <;> rfl
 ·skip
  refine ⟨_,(aq (d9 (PT.nox (aR sY (aC (pv 0) rfl) (aC (pv 1) rfl) (aX _))) (aF (qH JQ T.iK rfl T.qK (ao BZ aB))) cQ)
   (aq (PS.nox (aV (i:=2) jo.nd rfl (Or.inl rfl) (iH T.afA (ok'7 T) tb_g% rfl T.Pn T.b'7 .nil bG (ao (aC (pv 0) rfl) aB))))
   (aq (PS.nox (aU (pv 2) (aJ bW (aC (pv 0) rfl) (aC (pv 1) rfl)) rfl))
   (aq (PS.nox (aU (pv 2) (aJ bW (aC (pv 0) rfl) (aC (pv 1) rfl)) rfl))
   (aq (PS.nox (aU (pv 2) (aJ bW (aC (pv 0) rfl) (aC (pv 1) rfl)) rfl))
   (aq (PS.nox (aU (pv 2) (aJ bW (aC (pv 0) rfl) (aC (pv 1) rfl)) rfl))
   (aq (PS.nox (aU (pv 2) (bB (ok'5 T) tb_g% rfl T.RT T.F'5.kp T.b'5 .nil bG (ao (aC (pv 0) rfl) (ao (aC (pv 1) rfl) aB))) rfl))
   (aq (PS.nox (aU (pv 2) (bB (ok'6 T) tb_g% rfl T.KD T.F'6.kp T.b'6 .nil bG (ao (aC (pv 0) rfl) (ao (aC (pv 1) rfl) aB))) rfl))
   (aq (PS.nox (aV (i:=3) jo.nd rfl (Or.inl rfl) (gG aB)))
   (aq (PS.nox (rE oX rfl (jC rfl T.pI (ao (bF (Cg rfl) (by rfl) T.ZM UL (ao (bF cD (by rfl) T.g8 gQ (ao (aC (pv 0) rfl) aB)) (ao (bF cD (by rfl) T.g8 gQ (ao (aC (pv 1) rfl) aB)) aB))) aB)) (gM (i:=4) jo.nd rfl (Or.inl rfl)) (aF (cR (Ka BK Bx BJ jE (pv 3) (ao (bF (jM rfl) (by rfl) T.oE Br (ao (aJ yd (bB (ail T) tb_g% rfl T.KH T.F'41.kp T.b'41 .nil bG (ao (aC (pv 0) rfl) (ao (pv 4) aB))) (bB (ail T) tb_g% rfl T.KH T.F'41.kp T.b'41 .nil bG (ao (aC (pv 1) rfl) (ao (pv 4) aB)))) aB)) aB))))))
   (aq (PS.nox (cR (dW (pv 2) T.bT T.uQ (ok'4 T) tb_g% T.b'4 .nil bG (ao (pv 3) aB))))
   (aF (PS.nox (cC (pv 2))))))))))))))),?_⟩
  rcases h with ⟨p,dx,a,p',dx',a',bs,bs',r,tt,ov,un,tn,tt',ov',un',tn',mi,ma,mi',ma',ls,ls',rfl,hR,hS,r2,r64,l4,l4',jb,v1,v2,q⟩ | ⟨p,dx,a,p',dx',a',bs,bs',r,tt,ov,un,tn,r',tt',ov',un',tn',mi,ma,mi',ma',ls,ls',rfl,hR,hS,hne,q⟩
  rotate_left
  ·refine ⟨_,rfl,rdF hR.o T.bT T.zN (vK ..) ⟨_,rfl,rdF hS.o T.bT T.zN (vK ..) ⟨rfl,_,rfl,?_⟩⟩⟩
   have e:(!decide (V.int r=V.int r'))=true:=by rw [decide_eq_false (fun z=>hne (V.int.inj z))];rfl
   rw [e]
   exact Ea ⟨by show 1<=sizeLine;decide,q⟩
  refine ⟨_,rfl,rdF hR.o T.bT T.zN (vK ..) ⟨_,rfl,rdF hS.o T.bT T.zN (vK ..) ⟨rfl,_,rfl,tu rfl ?_⟩⟩⟩
  refine ⟨_,rfl,rdF hR.o T.bT T.zN (vK ..) fun z dz nz ndz nez=>?_⟩
  refine ⟨z,dz,_,rfl,aj,fun e0 H1 he0 o1 f1 bt=>⟨rfl,?_⟩⟩
  have s1:Same H H1:=fun b o e=>bt b o (by rw [au (ak e nz),au (ak e ndz)];exact e) (ak e nz)
  have k1:∀ u:HO,Same H (upd H1 z u):=fun u b o e=>by rw [au (ak e nz)];exact s1 _ _ e
  have R1:=hR.same s1
  have R2:=hS.same s1
  refine ⟨_,rfl,rdF R1.o T.bT T.zO (z9 ..) ⟨_,rfl,rdF R2.o T.bT T.zO (z9 ..) ⟨_,_,rfl,rfl,_,rfl,z,_,dz,_,rfl,o1,T.bT,T.zO,(by show 8<1000;decide),?_⟩⟩⟩
  rw [Ab]
  have R1:=hR.same (k1 (.ins A.cX dz (rg (.int r) (.int (tt+tt')) (.int 0) (.int 0) (.int 0) .non .non (.ref e0))))
  have R2:=hS.same (k1 (.ins A.cX dz (rg (.int r) (.int (tt+tt')) (.int 0) (.int 0) (.int 0) .non .non (.ref e0))))
  refine ⟨_,rfl,rdF R1.o T.bT T.wA (Aa ..) ⟨_,rfl,rdF R2.o T.bT T.wA (Aa ..) ⟨_,_,rfl,rfl,_,rfl,z,_,dz,_,rfl,aj,T.bT,T.wA,(by show 8<1000;decide),?_⟩⟩⟩
  rw [DQ]
  rw [cJ]
  have R1:=hR.same (k1 (.ins A.cX dz (rg (.int r) (.int (tt+tt')) (.int (ov+ov')) (.int 0) (.int 0) .non .non (.ref e0))))
  have R2:=hS.same (k1 (.ins A.cX dz (rg (.int r) (.int (tt+tt')) (.int (ov+ov')) (.int 0) (.int 0) .non .non (.ref e0))))
  refine ⟨_,rfl,rdF R1.o T.bT T.wB (uZ ..) ⟨_,rfl,rdF R2.o T.bT T.wB (uZ ..) ⟨_,_,rfl,rfl,_,rfl,z,_,dz,_,rfl,aj,T.bT,T.wB,(by show 8<1000;decide),?_⟩⟩⟩
  rw [Ac]
  rw [cJ]
  have R1:=hR.same (k1 (.ins A.cX dz (rg (.int r) (.int (tt+tt')) (.int (ov+ov')) (.int (un+un')) (.int 0) .non .non (.ref e0))))
  have R2:=hS.same (k1 (.ins A.cX dz (rg (.int r) (.int (tt+tt')) (.int (ov+ov')) (.int (un+un')) (.int 0) .non .non (.ref e0))))
  refine ⟨_,rfl,rdF R1.o T.bT T.qJ (oG ..) ⟨_,rfl,rdF R2.o T.bT T.qJ (oG ..) ⟨_,_,rfl,rfl,_,rfl,z,_,dz,_,rfl,aj,T.bT,T.qJ,(by show 8<1000;decide),?_⟩⟩⟩
  rw [sJ]
  rw [cJ]
  have s2:=k1 (.ins A.cX dz (rg (.int r) (.int (tt+tt')) (.int (ov+ov')) (.int (un+un')) (.int (tn+tn')) .non .non (.ref e0)))
  have o2:(upd H1 z (.ins A.cX dz (rg (.int r) (.int (tt+tt')) (.int (ov+ov')) (.int (un+un')) (.int (tn+tn')) .non .non (.ref e0)))) z=_:=aj
  have R1:=hR.same s2
  have R2:=hS.same s2
  generalize upd H1 z (.ins A.cX dz (rg (.int r) (.int (tt+tt')) (.int (ov+ov')) (.int (un+un')) (.int (tn+tn')) .non .non (.ref e0)))=H2 at s2 o2 R1 R2 ⊢
  refine ⟨_,rfl,rdF R1.o T.bT T.Dp (Ji ..) ⟨_,rfl,rdF R2.o T.bT T.Dp (Ji ..) ⟨mi,mi',rfl,fun H3 s3=>⟨_,rfl,z,_,dz,_,rfl,s3 _ _ o2,T.bT,T.Dp,(by show 8<1000;decide),?_⟩⟩⟩⟩
  rw [Ae]
  have s4:Same H (upd H3 z (.ins A.cX dz (rg (.int r) (.int (tt+tt')) (.int (ov+ov')) (.int (un+un')) (.int (tn+tn')) (oV (lo2 mi mi')) .non (.ref e0)))):=fun b o e=>by rw [au (ak e nz)];exact s3 _ _ (s2 b o e)
  have o4:(upd H3 z (.ins A.cX dz (rg (.int r) (.int (tt+tt')) (.int (ov+ov')) (.int (un+un')) (.int (tn+tn')) (oV (lo2 mi mi')) .non (.ref e0)))) z=_:=aj
  have R1:=hR.same s4
  have R2:=hS.same s4
  generalize upd H3 z (.ins A.cX dz (rg (.int r) (.int (tt+tt')) (.int (ov+ov')) (.int (un+un')) (.int (tn+tn')) (oV (lo2 mi mi')) .non (.ref e0)))=H4 at s4 o4 R1 R2 ⊢
  refine ⟨_,rfl,rdF R1.o T.bT T.Dq (PK ..) ⟨_,rfl,rdF R2.o T.bT T.Dq (PK ..) ⟨ma,ma',rfl,fun H5 s5=>⟨_,rfl,z,_,dz,_,rfl,s5 _ _ o4,T.bT,T.Dq,(by show 8<1000;decide),?_⟩⟩⟩⟩
  rw [DR]
  have s6:Same H (upd H5 z (.ins A.cX dz (rg (.int r) (.int (tt+tt')) (.int (ov+ov')) (.int (un+un')) (.int (tn+tn')) (oV (lo2 mi mi')) (oV (hi2 ma ma')) (.ref e0)))):=fun b o e=>by rw [au (ak e nz)];exact s5 _ _ (s4 b o e)
  have o6:(upd H5 z (.ins A.cX dz (rg (.int r) (.int (tt+tt')) (.int (ov+ov')) (.int (un+un')) (.int (tn+tn')) (oV (lo2 mi mi')) (oV (hi2 ma ma')) (.ref e0)))) z=_:=aj
  generalize upd H5 z (.ins A.cX dz (rg (.int r) (.int (tt+tt')) (.int (ov+ov')) (.int (un+un')) (.int (tn+tn')) (oV (lo2 mi mi')) (oV (hi2 ma ma')) (.ref e0)))=H6 at s6 o6 ⊢
  refine ⟨by show 0<=sizeLine;decide,fun g hg=>?_⟩
  have s7:Same H6 (upd H6 g (.lst [])):=Same.new hg
  have f7:(upd H6 g (.lst [])) g=some (.lst []):=aj
  have n7:H g=none:=s6.free hg
  have zg:z≠g:=ak o6 hg
  generalize upd H6 g (.lst [])=H7 at s7 f7 ⊢
  have s07:=s6.trans s7
  have R1:=hR.same s07
  have R2:=hS.same s07
  have na:((bs.map V.ref).length:Int)=(ls.length:Int):=by rw [bA,hR.l.n]
  have nb:((bs'.map V.ref).length:Int)=(ls'.length:Int):=by rw [bA,hS.l.n]
  refine ⟨_,rfl,rdF R1.o T.bT T.wC (qL ..) (eX (.inl (.inl R1.l.o)) ⟨_,rfl,rdF R2.o T.bT T.wC (qL ..) (eX (.inl (.inl R2.l.o)) ⟨_,_,rfl,?_⟩)⟩)⟩
  rw [na,nb]
  have em:(if (ls'.length:Int)>(ls.length:Int) then (ls'.length:Int) else (ls.length:Int))=((max ls.length ls'.length:Nat):Int):=by split <;> lia
  rw [em]
  refine ⟨_,rfl,by lia,by lia,?_⟩
  refine vo (fun i σ G=>∃ (cs:List Addr) (y:Option V),σ=[some (.ref p),some (.ref p'),some (.ref z),some (.ref g),y]/\LL G g cs (RG.tE i ls ls')/\Same H G/\G z=H6 z/\∀ c∈cs,H c=none)
   ⟨[],none,rfl,⟨f7,rfl,fun i b l e=>by (cases i <;> cases e),fun z=>nomatch z⟩,s07,(s7 _ _ o6).trans o6.symm,fun _ h=>nomatch h⟩ ?_ ?_
  ·rintro i σ G hi ⟨cs,y,rfl,L,sG,gz,fr⟩
   have hi':i<max ls.length ls'.length:=by lia
   have R1:=hR.same sG
   have R2:=hS.same sG
   have jl:(RG.jn ls ls' i).length<=200:=jb _ (by unfold RG.join RG.tE;exact jV.mpr ⟨i,Mv.mpr hi',rfl⟩)
   rw [RG.HW] at jl
   refine ⟨_,rfl,.inl ⟨rfl,_,.inl (.inl L.o)⟩,_,rfl,rdF R1.o T.bT T.wC (qL ..) ⟨_,rfl,a,bs,ls,i,by rw [xR];rfl,R1.l,fun c1 G1 f1 t1=>?_⟩⟩
   refine ⟨_,rfl,rdF (R2.same t1).o T.bT T.wC (qL ..) ⟨_,rfl,a',bs',ls',i,by rw [xR];rfl,(R2.same t1).l,fun c2 G2 f2 t2=>?_⟩⟩
   refine ⟨c1,c2,_,_,rfl,rfl,t2 _ _ f1,f2,mH (cL (by rw [bA,bA];lia)),fun c3 hc3=>?_⟩
   rw [<- dN]
   have t3:Same G2 (upd G2 c3 (.lst ((ls.getD i []++ls'.getD i []).map V.int))):=Same.new hc3
   have f3:(upd G2 c3 (.lst ((ls.getD i []++ls'.getD i []).map V.int))) c3=some (.lst ((ls.getD i []++ls'.getD i []).map V.int)):=aj
   generalize upd G2 c3 (.lst ((ls.getD i []++ls'.getD i []).map V.int))=G3 at t3 f3 ⊢
   refine .inr ⟨c3,_,rfl,.inl (.inl f3),by rw [dh];lia,fun c4 ns hc4 pm so=>?_⟩
   obtain rfl:=RG.nM pm so
   have t4:Same G3 (upd G3 c4 (.lst ((RG.srt (ls.getD i []++ls'.getD i [])).map V.int))):=Same.new hc4
   have f4:(upd G3 c4 (.lst ((RG.srt (ls.getD i []++ls'.getD i [])).map V.int))) c4=some (.lst ((RG.srt (ls.getD i []++ls'.getD i [])).map V.int)):=aj
   have t03:=t1.trans (t2.trans t3)
   have n4:c4≠g:=aK (ak (t03 _ _ L.o) hc4)
   have N4:H c4=none:=(sG.trans t03).free hc4
   have t04:=t03.trans t4
   have L4:=L.same t04
   have z4:=t04 _ _ (gz.trans o6)
   have s4:=sG.trans t04
   generalize upd G3 c4 (.lst ((RG.srt (ls.getD i []++ls'.getD i [])).map V.int))=G4 at f4 L4 z4 s4 ⊢
   refine ⟨g,_,_,rfl,rfl,L4.o,cL (by rw [bA,L4.n,RG.vI];lia),?_⟩
   have L5:=L4.app (m:=RG.jn ls ls' i) f4 n4
   rw [<- RG.yq] at L5
   refine ⟨_,_,rfl,L5,fun b o e=>by rw [au (ak e n7)];exact s4 b o e,by rw [au zg,o6];exact z4,fun c hc=>?_⟩
   rcases dg.mp hc with y | y
   ·exact fr c y
   ·rw [d8.mp y];exact N4
  ·rintro σ G ⟨cs,y,rfl,L,sG,gz,fr⟩
   rw [Vc] at L
   rw [o6] at gz
   have jv:RG.val (RG.join ls ls')<2 ^ 500:=by
    rw [RG.Rq]
    have:(2:Nat) ^ 400+2 ^ 400<2 ^ 500:=by decide
    lia
   refine ⟨_,rfl,z,dz,_,rfl,gz,rgN tb_g%,_,rfl,z,dz,g,cs,RG.join ls ls',r,tt+tt',ov+ov',un+un',tn+tn',lo2 mi mi',hi2 ma ma',.ref e0,rfl,gz,L,r2,r64,jb,by rw [RG.HX];lia,jv,fun g2 bs2 out tn2 ov2 un2 G7 st ng2 L7 o7 b7 _ fr7=>?_⟩
   have nz2:∀ c,G c=none->H c=none:=fun c n=>sG.free n
   exact ⟨_,rfl,q z dz g2 bs2 out tn2 ov2 un2 G7 st ⟨o7,L7⟩ nz (nz2 _ ng2) (fun c hc=>by
    rcases fr7 c hc with y | y
    ·exact fr c y
    ·exact nz2 c y) fun b o e=>b7 b o (sG b o e) (ak e nz)⟩
open MK
noncomputable def shift (c:Int) (b:WN.Box):WN.Box:=⟨b.f+c,b.l+c,b.s⟩
noncomputable def Yy (A:Ad):Sp:=fun vs H Q _=>∃ (p dx l p' dx' l':Addr) (r k c c':Int) (ps ps':List Bp),vs=[.ref p,.ref p']/\Wn A H p dx l r k c ps/\Wn A H p' dx' l' r k c' ps'/\ps.length+ps'.length<=10400/\0<=r/\r<=64 /\
 ∀ (x dxx l2:Addr) (ps2:List Bp) (H':Hp),H x=none->H l2=none->bx ps2=oH r (c+c'-k) (bx ps++(bx ps').map (shift c))->Wn A H' x dxx l2 r k (c+c') ps2->Same H H'->Q (.ref x) H'
theorem Yz {c:Int} {p:Bp} (h:ps[i]? = some p):(bx (ps.take (i+1))).map (shift c)=(bx (ps.take i)).map (shift c)++[shift c p.2]:=by
 unfold bx;rw [vY,h,dN,dN];rfl
noncomputable def Sq (A:Ad):Sp:=fun vs H Q E=>Yy A vs H Q E\/∃ (p dx l p' dx' l':Addr) (r k c r' k' c':Int) (ps ps':List Bp),vs=[.ref p,.ref p']/\Wn A H p dx l r k c ps/\Wn A H p' dx' l' r' k' c' ps'/\(r≠r'\/k≠k')/\E (.ref A.BW) none H
theorem ok'43 (T:Tx K mg A):cY P w K mg base (CXE P w) 5 A.Wm A.yE ["one","other"] (Sq A):=by
 k_dat (T.F'43.okE,uX) "a"
 ·rcases h with ⟨p,dx,l,p',dx',l',r,k,c,c',ps,ps',rfl,_⟩ | ⟨p,dx,l,p',dx',l',r,k,c,r',k',c',ps,ps',rfl,_⟩ <;> rfl
 ·skip
  refine ⟨_,(aq (d9 (PT.nox (PW.pt (pw_or (aR sY (aC (pv 0) rfl) (aC (pv 1) rfl) (aX _)) (pw_or1 (aR sY (aC (pv 0) rfl) (aC (pv 1) rfl) (aX _)))))) (aF (qH JQ T.iK rfl T.qK (ao BZ aB))) cQ)
   (aq (PS.nox (aV (i:=2) uX.nd rfl (Or.inl rfl) (iH T.ah0 (ah4 T) tb_g% rfl T.RQ T.b'10 .nil bG (ao (aC (pv 0) rfl) (ao (aC (pv 0) rfl) aB)))))
   (aq (PS.nox (aU (pv 2) (aJ bW (aC (pv 0) rfl) (aC (pv 1) rfl)) rfl))
   (aq (PS.nox (kj (i:=3) (cl:=[("one",s.heap.objs.size+1)]) (N:=["box","one"]) (caps:=[0]) (tt:=_) (te:=(tTup (Dh (tOp _ (tOp (vR K) _ _) (tFld K _ "clock")) (Dh (tOp _ (tOp (vR K) _ _) (tFld K _ "clock")) (Dh (tOp (vR K) _ _) aen))))) uX.nd rfl (Or.inl rfl) rfl (by with_unfolding_all rfl) tb_g% rfl tb_g% ⟨rfl,trivial⟩ (lX (by with_unfolding_all rfl)) tb_g% rfl rfl rfl (dZ.at (k:=1) (show dZ _ _ _ _ 1 [0] from ⟨⟨"one",_,rfl,rfl,.inl rfl,.inl rfl,rfl⟩,trivial⟩)) (pq (aC (pv 1) rfl)) (fun _ _ _ _=>rJ) (fun _ _ _ _=>(xZ (ao (aJ bW (cI (ixG (by exact bN hr)) (pv 0) aA (fun _ _=>rfl)) (aC (pv 1) rfl)) (ao (aJ bW (cI (ixG (by exact bN hr)) (pv 0) aA (fun _ _=>rfl)) (aC (pv 1) rfl)) (ao (cI (ixG (by exact bN hr)) (pv 0) aA (fun _ _=>rfl)) aB)))))))
   (aq (PS.nox (cR (dW (pv 2) T.dJ T.mG (afR T) tb_g% T.b'11 .nil bG (ao (aJ yd (aC (pv 0) rfl) (pv 3)) aB))))
   (aF (PS.nox (cC (pv 2))))))))),?_⟩
  rcases h with ⟨p,dx,l,p',dx',l',r,k,c,c',ps,ps',rfl,hw,hw',h400,r0,r64,q⟩ | ⟨p,dx,l,p',dx',l',r,k,c,r',k',c',ps,ps',rfl,hw,hw',hd,q⟩
  rotate_left
  ·refine ⟨_,rfl,rdF hw.o T.dJ T.zP (vL _ _ _ _) ⟨_,rfl,rdF hw'.o T.dJ T.zP (vL _ _ _ _) ⟨rfl,_,rfl,eF (fun h=>?_) (fun h=>?_)⟩⟩⟩
   ·exact Ea ⟨by show 1<=sizeLine;decide,q⟩
   ·have e:r=r':=by
     by_cases z:r=r'
     ·exact z
     ·exfalso;apply h;rw [decide_eq_false (fun y=>z (V.int.inj y))];rfl
    refine ⟨_,rfl,rdF hw.o T.dJ T.zQ (qM _ _ _ _) ⟨_,rfl,rdF hw'.o T.dJ T.zQ (qM _ _ _ _) ⟨rfl,_,rfl,?_⟩⟩⟩
    have hk:k≠k':=by rcases hd with z | z;exact absurd e z;exact z
    rw [decide_eq_false (fun y=>hk (V.int.inj y))]
    exact Ea ⟨by show 1<=sizeLine;decide,q⟩
  refine ⟨_,rfl,rdF hw.o T.dJ T.zP (vL _ _ _ _) ⟨_,rfl,rdF hw'.o T.dJ T.zP (vL _ _ _ _) ⟨rfl,_,rfl,tu rfl ?_⟩⟩⟩
  refine ⟨_,rfl,rdF hw.o T.dJ T.zQ (qM _ _ _ _) ⟨_,rfl,rdF hw'.o T.dJ T.zQ (qM _ _ _ _) ⟨rfl,_,rfl,tu rfl ?_⟩⟩⟩
  refine ⟨_,rfl,rdF hw.o T.dJ T.zP (vL _ _ _ _) ⟨_,rfl,rdF hw.o T.dJ T.zQ (qM _ _ _ _) fun x dxx nx ndx nex=>?_⟩⟩
  refine ⟨x,dxx,r,k,rfl,aj,fun d H1 hd e1 e2 bt1=>⟨rfl,?_⟩⟩
  have s1:Same H H1:=fun b o e=>bt1 b o (by rw [au (ak e nx),au (ak e ndx)];exact e) (ak e nx)
  refine ⟨_,rfl,rdF (s1 _ _ hw.o) T.dJ T.mK (jj _ _ _ _) ⟨_,rfl,rdF (s1 _ _ hw'.o) T.dJ T.mK (jj _ _ _ _) ⟨_,_,rfl,rfl,_,rfl,x,_,dxx,_,rfl,e1,T.dJ,T.mK,(by show 4<1000;decide),?_⟩⟩⟩
  rw [sO]
  have s2:Same H (upd H1 x (.ins A.gW dxx (wf (.int r) (.int k) (.int (c+c')) (.ref d)))):=fun b o e=>by rw [au (ak e nx)];exact s1 b o e
  have o2:(upd H1 x (.ins A.gW dxx (wf (.int r) (.int k) (.int (c+c')) (.ref d)))) x=some (.ins A.gW dxx (wf (.int r) (.int k) (.int (c+c')) (.ref d))):=aj
  generalize upd H1 x (.ins A.gW dxx (wf (.int r) (.int k) (.int (c+c')) (.ref d)))=H2 at s2 o2 ⊢
  have w2:=hw.same s2
  have w2':=hw'.same s2
  refine ⟨_,rfl,rdF w2'.o T.dJ T.zR (u9 _ _ _ _) ⟨l',rfl,⟨_,.inl (.inl w2'.b.l)⟩,fun D hD=>?_⟩⟩
  refine Kl (K:=K) (a:=l') (xs:=ps'.map fun p=>V.ref p.1) (fun i ys H3=>∃ qs:List Bp,ys=qs.map (fun p=>V.ref p.1)/\bx qs=(bx (ps'.take i)).map (shift c)/\(∀ p∈qs,H3 p.1=some (bt p.2))/\H3 D=some (.lst ys)/\Same H2 H3) ⟨[],rfl,rfl,(fun p m=>nomatch m),aj,Same.new hD⟩ ?_ ?_ ?_ ?_
  ·rintro i ys H3 hi ⟨qs,rfl,eq,tq,fD,s3⟩
   refine ⟨.inl (.inl (s3 _ _ w2'.b.l)),fD,Jh ?_⟩
   have:qs.length=(ps'.take i).length:=by rw [<- yH,eq,bA,yH]
   rw [bA,this,gJ]
   lia
  ·rintro i ys H3 y hy ⟨qs,rfl,eq,tq,fD,s3⟩
   obtain ⟨z,hz,rfl⟩:=Ez hy
   have hzt:=s3 _ _ (w2'.b.t z (List.mem_of_getElem? hz))
   have w3:=w2.same s3
   refine ⟨_,rfl,eZ (.inl (.inl hzt)) (v:=.int z.2.f) rfl ⟨_,rfl,rdF w3.o T.dJ T.mK (jj _ _ _ _) ⟨_,_,rfl,rfl,?_⟩⟩⟩
   refine ⟨_,rfl,eZ (.inl (.inl hzt)) (v:=.int z.2.l) rfl ⟨_,rfl,rdF w3.o T.dJ T.mK (jj _ _ _ _) ⟨_,_,rfl,rfl,?_⟩⟩⟩
   refine ⟨_,rfl,eZ (.inl (.inl hzt)) (v:=.int z.2.s) rfl ⟨(by show 3<=sizeLine;decide),fun t ht=>?_⟩⟩
   have s4:Same H3 (upd H3 t (bt (shift c z.2))):=Same.new ht
   have f4:(upd H3 t (bt (shift c z.2))) t=some (bt (shift c z.2)):=aj
   show (upd H3 t (bt (shift c z.2))) D=_/\∃ qs':List Bp,_
   have nD:∀ a b,H3 a=some (bt b)->a≠D:=fun a b e=>jg e fD (by intro z;cases z)
   refine ⟨s4 _ _ fD,qs++[(t,shift c z.2)],by rw [dN];rfl,?_,fun p m=>?_,aj,fun b o e=>?_⟩
   ·rw [Yz hz,<- eq];unfold bx;rw [dN];rfl
   ·rcases dg.mp m with m | m
    ·have:=tq p m
     rw [au (nD _ _ this)];exact s4 _ _ this
    ·rw [d8.mp m]
     have:t≠D:=aK (ak fD ht)
     rw [au this];exact f4
   ·rw [au (ak e hD)];exact s4 _ _ (s3 _ _ e)
  ·rintro ys H3 ⟨qs,rfl,eq,tq,fD,s3⟩
   rw [bA,qT] at eq
   have s03:=s2.trans s3
   have lq:qs.length=ps'.length:=by rw [<- yH,eq,bA,yH]
   refine ⟨_,rfl,x,dxx,_,rfl,s3 _ _ o2,KY _ _ _ _ tb_g% tb_g% tb_g% tb_g%,?_⟩
   refine ⟨_,rfl,rdF (s03 _ _ hw.o) T.dJ T.zR (u9 _ _ _ _) ⟨_,rfl,l,D,_,_,rfl,rfl,s03 _ _ hw.b.l,fD,mH (Jh (by rw [bA,bA];lia)),fun l4 hl4=>?_⟩⟩
   have s4:Same H3 (upd H3 l4 (.lst ((ps.map fun p=>V.ref p.1)++(qs.map fun p=>V.ref p.1)))):=Same.new hl4
   have b4:Bxs (upd H3 l4 (.lst ((ps.map fun p=>V.ref p.1)++(qs.map fun p=>V.ref p.1)))) l4 (ps++qs):=by
    refine ⟨by rw [aj,dN],fun z m=>?_⟩
    rcases dg.mp m with m | m
    ·exact s4 _ _ (s03 _ _ (hw.b.t z m))
    ·exact s4 _ _ (tq z m)
   generalize upd H3 l4 (.lst ((ps.map fun p=>V.ref p.1)++(qs.map fun p=>V.ref p.1)))=H4 at s4 b4 ⊢
   refine ⟨x,dxx,l4,d,r,k,c+c',_,rfl,s4 _ _ (s3 _ _ o2),b4,by rw [dh];lia,r0,r64,fun l5 ps5 H5 e5 w5 b5 n5=>?_⟩
   have s04:=s03.trans s4
   refine ⟨_,rfl,q x dxx l5 ps5 H5 nx (s04.free n5) ?_ w5 fun b o e=>b5 b o (s04 _ _ e) (ak e nx)⟩
   rw [e5]
   congr 1
   unfold bx at eq ⊢
   rw [dN,eq]
  ·exact afx (gq (lg (jm (bO 0) (jw _)) (Ie (bO 1))) (gq (lg (jm (bO 0) (jw _)) (Ie (bO 1))) (gq (jm (bO 0) (jw _)) qI)))
noncomputable def aa8 (A:Ad):Sp:=fun vs H Q _=>∃ (p dx l p' dx' l':Addr) (s:Int) (q q':Q4),vs=[.ref p,.ref p']/\Bn A H p dx l s q/\Bn A H p' dx' l' s q'/\∀ (x dxx l2:Addr) (H':Hp),H x=none->Bn A H' x dxx l2 s (addQ q q')->Same H H'->Q (.ref x) H'
noncomputable def YB (A:Ad):Sp:=fun vs H Q E=>aa8 A vs H Q E\/∃ (p dx l p' dx' l':Addr) (s s':Int) (q q':Q4),vs=[.ref p,.ref p']/\Bn A H p dx l s q/\Bn A H p' dx' l' s' q'/\s≠s'/\E (.ref A.BW) none H
theorem ok'44 (T:Tx K mg A):cY P w K mg base (CXE P w) 3 A.Wo A.kJ ["one","other"] (YB A):=by
 k_dat (T.F'44.okE,pK) "a"
 ·rcases h with ⟨p,dx,l,p',dx',l',s,q,q',rfl,_⟩ | ⟨p,dx,l,p',dx',l',s,s',q,q',rfl,_⟩ <;> rfl
 ·skip
  refine ⟨_,(aq (d9 (PT.nox (aR sY (aC (pv 0) rfl) (aC (pv 1) rfl) (aX _))) (aF (qH JQ T.iK rfl T.qK (ao BZ aB))) cQ)
   (aq (PS.nox (aV (i:=2) pK.nd rfl (Or.inl rfl) (iH T.ah2 (aif T) tb_g% rfl T.KC T.b'26 .nil bG (ao (aC (pv 0) rfl) aB))))
   (aq (PS.nox (aU (pv 2) (afv (g:=(gTup K 2 (GQ (uG 0) (GQ (uG 1) gNil)))) (k:=2) (cl:=[]) (N:=["first","second"]) (caps:=[]) (tt:=_) (te:=_) rfl (by with_unfolding_all rfl) tb_g% rfl tb_g% trivial (lX (by with_unfolding_all rfl)) (fun _ _ _ _=>Xj rfl (qD (gM (i:=0) (show (["first","second"]:List Str).Nodup by decide +kernel) rfl (Or.inl rfl)) (qD (gM (i:=1) (show (["first","second"]:List Str).Nodup by decide +kernel) rfl (Or.inl rfl)) Og))) rfl (dZ.at (k:=2) (show dZ _ _ _ _ 2 [] from trivial)) (aj5 rfl T.n_zip (ao (aC (pv 0) rfl) (ao (aC (pv 1) rfl) aB))) (fun _ _ _ _=>rJ) (fun _ _ _ _=>(aJ bW (pv 0) (pv 1)))) rfl))
   (aF (PS.nox (cC (pv 2))))))),?_⟩
  rcases h with ⟨p,dx,l,p',dx',l',sp,q,q',rfl,hb,hb',k⟩ | ⟨p,dx,l,p',dx',l',sp,sp',q,q',rfl,hb,hb',hne,k⟩
  rotate_left
  ·refine ⟨_,rfl,rdF hb.o T.mL T.Dt (Aj _ _) ⟨_,rfl,rdF hb'.o T.mL T.Dt (Aj _ _) ⟨rfl,_,rfl,?_⟩⟩⟩
   rw [decide_eq_false (fun z=>hne (V.int.inj z))]
   exact Ea ⟨by show 1<=sizeLine;decide,k⟩
  refine ⟨_,rfl,rdF hb.o T.mL T.Dt (Aj _ _) ⟨_,rfl,rdF hb'.o T.mL T.Dt (Aj _ _) ⟨rfl,_,rfl,tu rfl ?_⟩⟩⟩
  refine ⟨_,rfl,rdF hb.o T.mL T.Dt (Aj _ _) fun x dxx nx ndx nex=>?_⟩
  refine ⟨x,dxx,sp,rfl,aj,fun d H1 hd b1 bt1=>⟨rfl,?_⟩⟩
  have s1:Same H H1:=fun b o e=>bt1 b o (by rw [au (ak e nx),au (ak e ndx)];exact e) (ak e nx)
  refine ⟨_,rfl,rdF (s1 _ _ hb.o) T.mL T.wF (Fb _ _) ⟨_,rfl,rdF (s1 _ _ hb'.o) T.mL T.wF (Fb _ _) ⟨l,l',_,_,rfl,s1 _ _ hb.l,s1 _ _ hb'.l,fun D hD=>?_⟩⟩⟩
  refine aaS (xs:=(L4 q).map V.int) (ys:=(L4 q').map V.int) (fun i zs H2=>zs=((L4 (addQ q q')).take i).map V.int/\H2 D=some (.lst zs)/\Same H1 H2) ⟨rfl,aj,Same.new hD⟩ ?_ ?_ ?_ (Yr 0 1) ?_
  ·rintro i zs H2 ⟨rfl,f,s2⟩
   exact ⟨s2 _ _ (s1 _ _ hb.l),s2 _ _ (s1 _ _ hb'.l),f,cL (by rw [bA,gJ];show min i 4<=1000;lia)⟩
  ·rintro i zs H2 u v t ws hu hv ⟨rfl,f,s2⟩ ht hw
   obtain ⟨w0,w1,rfl⟩:∃ w0 w1,ws=[w0,w1]:=by
    match ws,hw with
    | [a,b],_=>exact ⟨a,b,rfl⟩
   have s3:Same H2 (upd H2 t (.tup [u,v])):=Same.new ht
   have keep:∀ L b o,H1 b=some o->(upd (upd H2 t (.tup [u,v])) D L) b=some o:=fun L b o e=>by rw [au (ak e hD)];exact s3 _ _ (s2 _ _ e)
   refine ⟨t,_,rfl,.inl (.inl aj),rfl,_,_,rfl,_,_,rfl,rfl,⟨[some u,some v],rfl,rfl⟩,?_⟩
   rcases kY hu with ⟨rfl,rfl⟩ | ⟨rfl,rfl⟩ | ⟨rfl,rfl⟩ | ⟨rfl,rfl⟩
   ·rcases kY hv with ⟨_,rfl⟩ | ⟨h,_⟩ | ⟨h,_⟩ | ⟨h,_⟩
    ·exact ⟨_,rfl,_,rfl,_,_,rfl,rfl,s3 _ _ f,rfl,aj,keep _⟩
    all_goals lia
   ·rcases kY hv with ⟨h,_⟩ | ⟨_,rfl⟩ | ⟨h,_⟩ | ⟨h,_⟩
    ·lia
    ·exact ⟨_,rfl,_,rfl,_,_,rfl,rfl,s3 _ _ f,rfl,aj,keep _⟩
    all_goals lia
   ·rcases kY hv with ⟨h,_⟩ | ⟨h,_⟩ | ⟨_,rfl⟩ | ⟨h,_⟩
    ·lia
    ·lia
    ·exact ⟨_,rfl,_,rfl,_,_,rfl,rfl,s3 _ _ f,rfl,aj,keep _⟩
    ·lia
   ·rcases kY hv with ⟨h,_⟩ | ⟨h,_⟩ | ⟨h,_⟩ | ⟨_,rfl⟩
    ·lia
    ·lia
    ·lia
    ·exact ⟨_,rfl,_,rfl,_,_,rfl,rfl,s3 _ _ f,rfl,aj,keep _⟩
  ·rintro zs H2 ⟨rfl,f,s2⟩
   refine ⟨_,rfl,x,_,dxx,_,rfl,s2 _ _ b1.o,T.mL,T.wF,(by show 2<1000;decide),?_⟩
   rw [vg]
   have npl:D≠x:=aK (ak b1.o hD)
   refine ⟨_,rfl,k x dxx D _ nx ⟨aj,by rw [au npl];exact f⟩ fun b o e=>?_⟩
   rw [au (ak e nx)];exact s2 _ _ (s1 _ _ e)
  ·exact lg (bO 0) (bO 1)
open MK
noncomputable def un (C D:List Int):List Int:=Sx.dd (C++D)
theorem Jk :z∈un C D↔z∈C\/z∈D:=by unfold un;rw [Sx.ae0,dg]
theorem af8 (C D:List Int):(un C D).Nodup:=Sx.Rg _
theorem af9 (h:C.Nodup):(up v C).Nodup:=h.filter _
theorem aga (nd:C.Nodup) (h:∀ z∈C,z∈D):(up v C).length<=(up v D).length :=
 (af9 nd).length_le_of_subset fun z m=>oK.mpr ⟨h z (oK.mp m).1,(oK.mp m).2⟩
theorem ahE (h:C.Nodup):(came C k).Nodup:=Sx.Kr h
theorem agb :z∈came C k↔z∈C\/z=k:=Sx.Zv
noncomputable def ahF (A:Ad):Sp:=fun vs H Q _=>∃ (p dx l p' dx' l':Addr) (r n v n' v':Int) (C D:List Int),vs=[.ref p,.ref p']/\Dn A H p dx l r n v (srt (up v C))/\Dn A H p' dx' l' r n' v' (srt (up v' D))/\vf r v C/\vf r v' D/\C.Nodup/\D.Nodup/\0<=r/\r<=400 /\
 ∀ (x dxx l2:Addr) (w:Int) (H':Hp),H x=none->H l2=none->vf r w (un C D)->Dn A H' x dxx l2 r (n+n') w (srt (up w (un C D)))->Same H H'->Q (.ref x) H'
noncomputable def agc (A:Ad):Sp:=fun vs H Q E=>ahF A vs H Q E\/∃ (p dx l p' dx' l':Addr) (r n v r' n' v':Int) (ks ms:List Int),vs=[.ref p,.ref p']/\Dn A H p dx l r n v ks/\Dn A H p' dx' l' r' n' v' ms/\r≠r'/\E (.ref A.BW) none H
theorem ok'45 (T:Tx K mg A):cY P w K mg base (CXE P w) 5 A.Wq A.jQ ["one","other"] (agc A):=by
 k_dat (T.F'45.okE,oF) "a"
 ·rcases h with ⟨p,dx,l,p',dx',l',r,n,v,n',v',C,D,rfl,_⟩ | ⟨p,dx,l,p',dx',l',r,n,v,r',n',v',ks,ms,rfl,_⟩ <;> rfl
 ·skip
  refine ⟨_,(aq (d9 (PT.nox (aR sY (aC (pv 0) rfl) (aC (pv 1) rfl) (aX _))) (aF (qH JQ T.iK rfl T.qK (ao BZ aB))) cQ)
   (aq (PS.nox (aV (i:=2) oF.nd rfl (Or.inl rfl) (iH T.ah1 (ah7 T) tb_g% rfl T.Im T.b'16 .nil bG (ao (aC (pv 0) rfl) aB))))
   (aq (PS.nox (aU (pv 2) (aJ bW (aC (pv 0) rfl) (aC (pv 1) rfl)) rfl))
   (aq (PS.nox (aU (pv 2) (bF (Cg rfl) (by rfl) T.ZM UL (ao (aC (pv 0) rfl) (ao (aC (pv 1) rfl) aB))) rfl))
   (aq (PS.nox (cR (dW (pv 2) T.fJ T.pG (ah9 T) tb_g% T.b'18 .nil bG (ao (bB (ah8 T) tb_g% rfl T.Ir T.F'17.kp T.b'17 .nil bG (ao (bF (Yg rfl) (by rfl) T.oE Br (ao (mU (aaF rfl) (by rfl) T.n_set ais (ao (aJ yd (aC (pv 0) rfl) (aC (pv 1) rfl)) aB)) aB)) (ao (aC (pv 2) rfl) aB))) aB))))
   (aF (PS.nox (cC (pv 2))))))))),?_⟩
  rcases h with ⟨p,dx,l,p',dx',l',r,n,v,n',v',C,D,rfl,h1,h2,L1,L2',nC,nD,r0,r4,q⟩ | ⟨p,dx,l,p',dx',l',r,n,v,r',n',v',ks,ms,rfl,h1,h2,hd,q⟩
  rotate_left
  ·refine ⟨_,rfl,rdF h1.o T.fJ T.zT (vM ..) ⟨_,rfl,rdF h2.o T.fJ T.zT (vM ..) ⟨rfl,_,rfl,?_⟩⟩⟩
   rw [decide_eq_false (fun y=>hd (V.int.inj y))]
   exact Ea ⟨by show 1<=sizeLine;decide,q⟩
  refine ⟨_,rfl,rdF h1.o T.fJ T.zT (vM ..) ⟨_,rfl,rdF h2.o T.fJ T.zT (vM ..) ⟨rfl,_,rfl,tu rfl ?_⟩⟩⟩
  refine ⟨_,rfl,rdF h1.o T.fJ T.zT (vM ..) fun x dxx nx ndx nex=>?_⟩
  refine ⟨x,dxx,r,rfl,L2.aj,fun d H1 hd e1 e2 bt1=>⟨rfl,?_⟩⟩
  have s1:Same H H1:=fun b o e=>bt1 b o (by rw [au (ak e nx),au (ak e ndx)];exact e) (ak e nx)
  have v0:=L1.1
  have v0':=L2'.1
  have v61:=L1.le r0
  have v61':=L2'.le r0
  refine ⟨_,rfl,rdF (s1 _ _ h1.o) T.fJ T.Dr (vd ..) ⟨_,rfl,rdF (s1 _ _ h2.o) T.fJ T.Dr (vd ..) ⟨_,_,rfl,rfl,_,rfl,x,_,dxx,_,rfl,e1,T.fJ,T.Dr,(by show 4<1000;decide),?_⟩⟩⟩
  rw [tL]
  have s2:Same H (upd H1 x (.ins A.gK dxx (df (.int r) (.int (n+n')) (.int 0) (.ref d)))):=fun b o e=>by rw [au (ak e nx)];exact s1 b o e
  have o2:(upd H1 x (.ins A.gK dxx (df (.int r) (.int (n+n')) (.int 0) (.ref d)))) x=some (.ins A.gK dxx (df (.int r) (.int (n+n')) (.int 0) (.ref d))):=L2.aj
  generalize upd H1 x (.ins A.gK dxx (df (.int r) (.int (n+n')) (.int 0) (.ref d)))=H2 at s2 o2 ⊢
  refine ⟨_,rfl,rdF (s2 _ _ h1.o) T.fJ T.uO (oJ ..) ⟨_,rfl,rdF (s2 _ _ h2.o) T.fJ T.uO (oJ ..) ⟨_,_,rfl,_,rfl,x,_,dxx,_,rfl,o2,T.fJ,T.uO,(by show 4<1000;decide),?_⟩⟩⟩
  rw [Ag]
  have hm:v<=(if v'>v then v' else v)/\v'<=(if v'>v then v' else v)/\(if v'>v then v' else v)<=61/\((if v'>v then v' else v)=v\/(if v'>v then v' else v)=v'):=by split <;> lia
  generalize (if v'>v then v' else v)=m at hm ⊢
  obtain ⟨m1,m2,m61,me⟩:=hm
  have s3:Same H (upd H2 x (.ins A.gK dxx (df (.int r) (.int (n+n')) (.int m) (.ref d)))):=fun b o e=>by rw [au (ak e nx)];exact s2 b o e
  have o3:(upd H2 x (.ins A.gK dxx (df (.int r) (.int (n+n')) (.int m) (.ref d)))) x=some (.ins A.gK dxx (df (.int r) (.int (n+n')) (.int m) (.ref d))):=L2.aj
  generalize upd H2 x (.ins A.gK dxx (df (.int r) (.int (n+n')) (.int m) (.ref d)))=H3 at s3 o3 ⊢
  have k1:(srt (up v C)).length<=400:=by have:=L1.2.1;rw [fZ];lia
  have k2:(srt (up v' D)).length<=400:=by have:=L2'.2.1;rw [fZ];lia
  refine ⟨_,rfl,x,dxx,_,rfl,o3,afV _ _ _ _ tb_g% tb_g% tb_g% tb_g%,?_⟩
  refine ⟨_,rfl,rdF (s3 _ _ h1.o) T.fJ T.zU (Af ..) ⟨_,rfl,rdF (s3 _ _ h2.o) T.fJ T.zU (Af ..) ⟨l,l',_,_,rfl,rfl,s3 _ _ h1.l,s3 _ _ h2.l,mH (cL (by rw [bA,bA];lia)),fun l4 hl4=>?_⟩⟩⟩
  rw [<- dN]
  have s4:=s3.trans (Same.new (o:=.lst ((srt (up v C)++srt (up v' D)).map V.int)) hl4)
  have o4:=(Same.new (o:=.lst ((srt (up v C)++srt (up v' D)).map V.int)) hl4) _ _ o3
  have f4:(upd H3 l4 (.lst ((srt (up v C)++srt (up v' D)).map V.int))) l4=some (.lst ((srt (up v C)++srt (up v' D)).map V.int)):=L2.aj
  generalize upd H3 l4 (.lst ((srt (up v C)++srt (up v' D)).map V.int))=H4 at s4 o4 f4 ⊢
  refine ⟨l4,_,rfl,.inl (.inl f4),by rw [dh];lia,fun sa hsa=>⟨sa,_,rfl,L2.aj,fun l5 ns hl5 pm so=>?_⟩⟩
  obtain rfl:ns=srt (Sx.dd (srt (up v C)++srt (up v' D))):=nM pm so
  have t5:=(Same.new hsa).trans (Same.new (o:=.lst ((srt (Sx.dd (srt (up v C)++srt (up v' D)))).map V.int)) hl5)
  generalize hH5:upd (upd H4 sa _) l5 (.lst ((srt (Sx.dd (srt (up v C)++srt (up v' D)))).map V.int))=H5 at t5 ⊢
  have f5:H5 l5=some (.lst ((srt (Sx.dd (srt (up v C)++srt (up v' D)))).map V.int)):=by rw [<- hH5];exact L2.aj
  have s5:=s4.trans t5
  have o5:=t5 _ _ o4
  have ln:(srt (Sx.dd (srt (up v C)++srt (up v' D)))).length<=800:=by
   rw [fZ]
   have:=Sx.ae1 (srt (up v C)++srt (up v' D))
   rw [dh] at this
   lia
  refine ⟨_,rfl,rdF o5 T.fJ T.uO (oJ ..) ⟨l5,m,_,rfl,f5,by lia,fun l6 H6 nl6 g6 s6=>?_⟩⟩
  have o6:=s6 _ _ o5
  have nS:(srt (Sx.dd (srt (up v C)++srt (up v' D)))).Nodup:=(gZ _).nodup_iff.mpr (Sx.Rg _)
  have ks:∀ w,m<=w->(up w (up m (srt (Sx.dd (srt (up v C)++srt (up v' D)))))).Perm (up w (un C D)):=fun w hw=>by
   rw [ZR hw]
   refine (List.perm_ext_iff_of_nodup (af9 nS) (af9 (af8 C D))).mpr fun z=>?_
   rw [oK,oK,pC,Sx.ae0,dg,pC,pC,oK,oK,Jk]
   constructor
   ·rintro ⟨a | a,b⟩
    ·exact ⟨.inl a.1,b⟩
    ·exact ⟨.inr a.1,b⟩
   ·rintro ⟨a | a,b⟩
    ·exact ⟨.inl ⟨a,by lia⟩,b⟩
    ·exact ⟨.inr ⟨a,by lia⟩,b⟩
  have lu:(up m (srt (Sx.dd (srt (up v C)++srt (up v' D))))).length<=800:=iC (Bf _ _) ln
  refine ⟨x,dxx,l6,d,r,n+n',m,_,rfl,o6,g6,by lia,r0,by lia,m61,fun z hz=>(oK.mp hz).2,fun l7 w H7 lv dn bt nl7=>⟨_,rfl,?_⟩⟩
  have s06:=s5.trans s6
  have lw:=lv.1
  refine q x dxx l7 w H7 nx (s06.free nl7) ⟨by lia,?_,fun u u0 uw=>?_⟩ ?_ fun b o e=>bt b o (s06 _ _ e) (ak e nx)
  ·rw [<- (ks w lw).length_eq];exact lv.2.1
  ·rcases (show u<m\/m<=u by lia) with z | z
   ·rcases me with e | e
    ·have:=L1.2.2 u u0 tb_g%
     have:=aga (v:=u) nC (D:=un C D) fun z m=>Jk.mpr (.inl m)
     lia
    ·have:=L2'.2.2 u u0 tb_g%
     have:=aga (v:=u) nD (D:=un C D) fun z m=>Jk.mpr (.inr m)
     lia
   ·rw [<- (ks u z).length_eq];exact lv.2.2 u z uw
  ·rw [Yw,KZ (ks w lw)] at dn;exact dn
open MK
noncomputable def FP (room:Nat) (f g h:Fq):Prop:=∃ cut,lW room (nJ f.c g.c) h.c cut/\h.t=f.t+g.t/\h.l=f.l+g.l+cut
structure RP (f g h:Rs):Prop where
 r:h.r=f.r
 tt:h.tt=f.tt+g.tt
 mi:h.mi=lo2 f.mi g.mi
 ma:h.ma=hi2 f.ma g.ma
 st:RG.Stl f.r 0 (f.tn+g.tn) (f.ov+g.ov) (f.un+g.un) (RG.join f.ls g.ls) h.ls h.tn h.ov h.un
noncomputable def WP (room:Nat) (reach:Int) (f g h:Wi):Prop:=h.c=f.c+g.c/\bx h.ps=oH room (f.c+g.c-reach) (bx f.ps++(bx g.ps).map (shift f.c))
noncomputable def DP (room:Nat) (f g h:Di):Prop:=h.n=f.n+g.n/\h.C=un f.C g.C/\vf room h.v (un f.C g.C)
structure KP (x y z:KS):Prop where
 room:z.room=x.room
 reach:z.reach=x.reach
 span:z.span=x.span
 cm:FP x.room x.cm y.cm z.cm
 wn:FP x.room x.wn y.wn z.wn
 up:RP x.up.x y.up.x z.up.x
 dn:RP x.dn.x y.dn.x z.dn.x
 wi:WP x.room x.reach x.wi y.wi z.wi
 di:DP x.room x.di y.di z.di
 ba:z.ba.q=addQ x.ba.q y.ba.q
/-- two that can be poured together -/
structure Alk (x y:KS) (n m:Nat):Prop where
 room:y.room=x.room
 reach:y.reach=x.reach
 span:y.span=x.span
 kx:Kh x n
 ky:Kh y m
 few:n+m<=60000
 nx:x.di.C.Nodup
 ny:y.di.C.Nodup
 hc:(un x.di.C y.di.C).length<=700
theorem KP.kh {z:KS} {m:Nat} (h:KP x y z) (a:Alk x y n m):Kh z (n+m):=by
 have gf:∀ {f g k:Fq},FP x.room f g k->Gf x.room f n->Gf y.room g m->Gf z.room k (n+m):=fun {f g k} ⟨cut,ft,e1,e2⟩ ⟨⟨W,o1⟩,t1⟩ ⟨⟨V,o2⟩,t2⟩=>by
  rw [a.room] at o2
  rw [h.room]
  exact ⟨⟨_,by rw [e1,e2];exact (o1.aeM o2).fit ft⟩,by rw [e1];lia⟩
 have gr:∀ {f g k:Rs},RP f g k->Gr x.room f n->Gr y.room g m->Gr z.room k (n+m):=fun {f g k} p g1 g2=>by
  have e:g.r=f.r:=by rw [g1.r,g2.r,a.room]
  have h2:=g2.g
  rw [e] at h2
  refine ⟨by rw [p.r,g1.r,h.room],by rw [p.r,p.tt];exact g1.g.aeM h2 p.st,?_⟩
  have:=g1.t
  have:=g2.t
  rw [p.tt];lia
 obtain ⟨r1,i1,w1⟩:=a.kx.wl
 obtain ⟨q2,i2,w2⟩:=a.ky.wl
 rw [a.room,a.reach] at i2
 have hw:WN.wt (q2.map (WN.shR x.wi.c))=WN.wt q2:=by unfold WN.wt;rw [mY];rfl
 refine ⟨by rw [h.room];exact a.kx.r2,by rw [h.room];exact a.kx.r64,gf h.cm a.kx.cm a.ky.cm,gf h.wn a.kx.wn a.ky.wn,gr h.up a.kx.up a.ky.up,gr h.dn a.kx.dn a.ky.dn,by rw [h.reach];exact a.kx.kr,⟨r1++q2.map (WN.shR x.wi.c),?_,by rw [WN.Cu,hw];lia⟩,by rw [h.room,h.di.2.1];exact h.di.2.2,by rw [h.di.2.1];exact a.hc,a.few⟩
 rw [h.room,h.reach,h.wi.1,h.wi.2]
 exact i1.follow i2 tb_g% a.kx.kr
theorem yJ {L:List Addr} {y:Addr}:∀ {i:Nat},L.Nodup->y∉L->(L.set i y).Nodup:=by
 induction L with
 | nil=>intro i h _;exact h
 | cons a r ih =>
  intro i h n
  obtain ⟨h1,h2⟩:=jT.mp h
  have n1:y≠a:=fun z=>n (by rw [z];exact cZ)
  have n2:y∉r:=fun z=>n (gk _ z)
  cases i with
  | zero=>exact jT.mpr ⟨n2,h2⟩
  | succ i =>
   refine jT.mpr ⟨fun m=>?_,ih h2 n2⟩
   rcases vW m with z | z
   ·exact h1 z
   ·exact n1 z.symm
theorem Kp.fresh (h:Kp A G x) {p:Addr} (n:G p=none):p∉x.all:=by
 intro m
 unfold KS.all at m
 simp only [cU,jd,or_false] at m
 rcases m with rfl | rfl | rfl | rfl | rfl | rfl | rfl | rfl
 ·rw [h.o] at n;cases n
 ·rw [h.cm.o] at n;cases n
 ·rw [h.wn.o] at n;cases n
 ·rw [h.up.o] at n;cases n
 ·rw [h.dn.o] at n;cases n
 ·rw [h.wi.o] at n;cases n
 ·rw [h.di.o] at n;cases n
 ·rw [h.ba.o] at n;cases n
theorem Kp.putC (h:Kp A G x) (s:Same G G') {f:Fq} (n:G f.p=none) (hf:sV A G' x.room f):Kp A (L2.upd G' x.k (.ins A.bw x.dk (kf (.int x.room) (.int x.reach) (.int x.span) (.ref f.p) (.ref x.wn.p) (.ref x.up.p) (.ref x.dn.p) (.ref x.wi.p) (.ref x.di.p) (.ref x.ba.p)))) { x with cm:=f }:=by
 have a:=h.ap
 have o:=s _ _ h.o
 have b:L2.But x.k G' (L2.upd G' x.k (.ins A.bw x.dk (kf (.int x.room) (.int x.reach) (.int x.span) (.ref f.p) (.ref x.wn.p) (.ref x.up.p) (.ref x.dn.p) (.ref x.wi.p) (.ref x.di.p) (.ref x.ba.p)))):=But.upd
 have nk:f.p≠x.k:=aK (ak h.o n)
 have hf:=hf.but b o nk
 have h1:=(h.cm.same s).but b o (aK a.k1)
 have h2:=(h.wn.same s).but b o (aK a.k2)
 have h3:=(h.up.same s).but b o (aK a.k3)
 have h4:=(h.dn.same s).but b o (aK a.k4)
 have h5:=(h.wi.same s).but b o (aK a.k5)
 have h6:=(h.di.same s).but b o (aK a.k6)
 have h7:=(h.ba.same s).but b o (aK a.k7)
 exact ⟨L2.aj,hf,h2,h3,h4,h5,h6,h7,yJ (L:=x.all) (i:=1) h.nd (h.fresh n)⟩
theorem Kp.putW (h:Kp A G x) (s:Same G G') {f:Fq} (n:G f.p=none) (hf:sV A G' x.room f):Kp A (L2.upd G' x.k (.ins A.bw x.dk (kf (.int x.room) (.int x.reach) (.int x.span) (.ref x.cm.p) (.ref f.p) (.ref x.up.p) (.ref x.dn.p) (.ref x.wi.p) (.ref x.di.p) (.ref x.ba.p)))) { x with wn:=f }:=by
 have a:=h.ap
 have o:=s _ _ h.o
 have b:L2.But x.k G' (L2.upd G' x.k (.ins A.bw x.dk (kf (.int x.room) (.int x.reach) (.int x.span) (.ref x.cm.p) (.ref f.p) (.ref x.up.p) (.ref x.dn.p) (.ref x.wi.p) (.ref x.di.p) (.ref x.ba.p)))):=But.upd
 have nk:f.p≠x.k:=aK (ak h.o n)
 have hf:=hf.but b o nk
 have h1:=(h.cm.same s).but b o (aK a.k1)
 have h2:=(h.wn.same s).but b o (aK a.k2)
 have h3:=(h.up.same s).but b o (aK a.k3)
 have h4:=(h.dn.same s).but b o (aK a.k4)
 have h5:=(h.wi.same s).but b o (aK a.k5)
 have h6:=(h.di.same s).but b o (aK a.k6)
 have h7:=(h.ba.same s).but b o (aK a.k7)
 exact ⟨L2.aj,h1,hf,h3,h4,h5,h6,h7,yJ (L:=x.all) (i:=2) h.nd (h.fresh n)⟩
theorem Kp.putU (h:Kp A G x) (s:Same G G') {f:Ru} (n:G f.p=none) (hf:RnX A G' f.p f.x):Kp A (L2.upd G' x.k (.ins A.bw x.dk (kf (.int x.room) (.int x.reach) (.int x.span) (.ref x.cm.p) (.ref x.wn.p) (.ref f.p) (.ref x.dn.p) (.ref x.wi.p) (.ref x.di.p) (.ref x.ba.p)))) { x with up:=f }:=by
 have a:=h.ap
 have o:=s _ _ h.o
 have b:L2.But x.k G' (L2.upd G' x.k (.ins A.bw x.dk (kf (.int x.room) (.int x.reach) (.int x.span) (.ref x.cm.p) (.ref x.wn.p) (.ref f.p) (.ref x.dn.p) (.ref x.wi.p) (.ref x.di.p) (.ref x.ba.p)))):=But.upd
 have nk:f.p≠x.k:=aK (ak h.o n)
 have hf:=hf.but b o nk
 have h1:=(h.cm.same s).but b o (aK a.k1)
 have h2:=(h.wn.same s).but b o (aK a.k2)
 have h3:=(h.up.same s).but b o (aK a.k3)
 have h4:=(h.dn.same s).but b o (aK a.k4)
 have h5:=(h.wi.same s).but b o (aK a.k5)
 have h6:=(h.di.same s).but b o (aK a.k6)
 have h7:=(h.ba.same s).but b o (aK a.k7)
 exact ⟨L2.aj,h1,h2,hf,h4,h5,h6,h7,yJ (L:=x.all) (i:=3) h.nd (h.fresh n)⟩
theorem Kp.putD (h:Kp A G x) (s:Same G G') {f:Ru} (n:G f.p=none) (hf:RnX A G' f.p f.x):Kp A (L2.upd G' x.k (.ins A.bw x.dk (kf (.int x.room) (.int x.reach) (.int x.span) (.ref x.cm.p) (.ref x.wn.p) (.ref x.up.p) (.ref f.p) (.ref x.wi.p) (.ref x.di.p) (.ref x.ba.p)))) { x with dn:=f }:=by
 have a:=h.ap
 have o:=s _ _ h.o
 have b:L2.But x.k G' (L2.upd G' x.k (.ins A.bw x.dk (kf (.int x.room) (.int x.reach) (.int x.span) (.ref x.cm.p) (.ref x.wn.p) (.ref x.up.p) (.ref f.p) (.ref x.wi.p) (.ref x.di.p) (.ref x.ba.p)))):=But.upd
 have nk:f.p≠x.k:=aK (ak h.o n)
 have hf:=hf.but b o nk
 have h1:=(h.cm.same s).but b o (aK a.k1)
 have h2:=(h.wn.same s).but b o (aK a.k2)
 have h3:=(h.up.same s).but b o (aK a.k3)
 have h4:=(h.dn.same s).but b o (aK a.k4)
 have h5:=(h.wi.same s).but b o (aK a.k5)
 have h6:=(h.di.same s).but b o (aK a.k6)
 have h7:=(h.ba.same s).but b o (aK a.k7)
 exact ⟨L2.aj,h1,h2,h3,hf,h5,h6,h7,yJ (L:=x.all) (i:=4) h.nd (h.fresh n)⟩
theorem Kp.putI (h:Kp A G x) (s:Same G G') {f:Wi} (n:G f.p=none) (hf:Wn A G' f.p f.dx f.l x.room x.reach f.c f.ps):Kp A (L2.upd G' x.k (.ins A.bw x.dk (kf (.int x.room) (.int x.reach) (.int x.span) (.ref x.cm.p) (.ref x.wn.p) (.ref x.up.p) (.ref x.dn.p) (.ref f.p) (.ref x.di.p) (.ref x.ba.p)))) { x with wi:=f }:=by
 have a:=h.ap
 have o:=s _ _ h.o
 have b:L2.But x.k G' (L2.upd G' x.k (.ins A.bw x.dk (kf (.int x.room) (.int x.reach) (.int x.span) (.ref x.cm.p) (.ref x.wn.p) (.ref x.up.p) (.ref x.dn.p) (.ref f.p) (.ref x.di.p) (.ref x.ba.p)))):=But.upd
 have nk:f.p≠x.k:=aK (ak h.o n)
 have hf:=hf.but b o nk
 have h1:=(h.cm.same s).but b o (aK a.k1)
 have h2:=(h.wn.same s).but b o (aK a.k2)
 have h3:=(h.up.same s).but b o (aK a.k3)
 have h4:=(h.dn.same s).but b o (aK a.k4)
 have h5:=(h.wi.same s).but b o (aK a.k5)
 have h6:=(h.di.same s).but b o (aK a.k6)
 have h7:=(h.ba.same s).but b o (aK a.k7)
 exact ⟨L2.aj,h1,h2,h3,h4,hf,h6,h7,yJ (L:=x.all) (i:=5) h.nd (h.fresh n)⟩
theorem Kp.putS (h:Kp A G x) (s:Same G G') {f:Di} (n:G f.p=none) (hf:Dn A G' f.p f.dx f.l x.room f.n f.v (srt (My.up f.v f.C))):Kp A (L2.upd G' x.k (.ins A.bw x.dk (kf (.int x.room) (.int x.reach) (.int x.span) (.ref x.cm.p) (.ref x.wn.p) (.ref x.up.p) (.ref x.dn.p) (.ref x.wi.p) (.ref f.p) (.ref x.ba.p)))) { x with di:=f }:=by
 have a:=h.ap
 have o:=s _ _ h.o
 have b:L2.But x.k G' (L2.upd G' x.k (.ins A.bw x.dk (kf (.int x.room) (.int x.reach) (.int x.span) (.ref x.cm.p) (.ref x.wn.p) (.ref x.up.p) (.ref x.dn.p) (.ref x.wi.p) (.ref f.p) (.ref x.ba.p)))):=But.upd
 have nk:f.p≠x.k:=aK (ak h.o n)
 have hf:=hf.but b o nk
 have h1:=(h.cm.same s).but b o (aK a.k1)
 have h2:=(h.wn.same s).but b o (aK a.k2)
 have h3:=(h.up.same s).but b o (aK a.k3)
 have h4:=(h.dn.same s).but b o (aK a.k4)
 have h5:=(h.wi.same s).but b o (aK a.k5)
 have h6:=(h.di.same s).but b o (aK a.k6)
 have h7:=(h.ba.same s).but b o (aK a.k7)
 exact ⟨L2.aj,h1,h2,h3,h4,h5,hf,h7,yJ (L:=x.all) (i:=6) h.nd (h.fresh n)⟩
theorem Kp.putB (h:Kp A G x) (s:Same G G') {f:Ba} (n:G f.p=none) (hf:Bn A G' f.p f.dx f.l x.span f.q):Kp A (L2.upd G' x.k (.ins A.bw x.dk (kf (.int x.room) (.int x.reach) (.int x.span) (.ref x.cm.p) (.ref x.wn.p) (.ref x.up.p) (.ref x.dn.p) (.ref x.wi.p) (.ref x.di.p) (.ref f.p)))) { x with ba:=f }:=by
 have a:=h.ap
 have o:=s _ _ h.o
 have b:L2.But x.k G' (L2.upd G' x.k (.ins A.bw x.dk (kf (.int x.room) (.int x.reach) (.int x.span) (.ref x.cm.p) (.ref x.wn.p) (.ref x.up.p) (.ref x.dn.p) (.ref x.wi.p) (.ref x.di.p) (.ref f.p)))):=But.upd
 have nk:f.p≠x.k:=aK (ak h.o n)
 have hf:=hf.but b o nk
 have h1:=(h.cm.same s).but b o (aK a.k1)
 have h2:=(h.wn.same s).but b o (aK a.k2)
 have h3:=(h.up.same s).but b o (aK a.k3)
 have h4:=(h.dn.same s).but b o (aK a.k4)
 have h5:=(h.wi.same s).but b o (aK a.k5)
 have h6:=(h.di.same s).but b o (aK a.k6)
 have h7:=(h.ba.same s).but b o (aK a.k7)
 exact ⟨L2.aj,h1,h2,h3,h4,h5,h6,hf,yJ (L:=x.all) (i:=7) h.nd (h.fresh n)⟩
open MK
noncomputable def ahG (A:Ad):Sp:=fun vs H Q _=>∃ x:KS,vs=[.ref x.k]/\Kp A H x/\2<=x.room/\x.room<=64/\x.room % 2=0/\∀ (y:KS) (H':Hp),Kp A H' y->Eqp y (K0 x.room x.reach x.span)->(∀ b∈y.all,H b=none)->Same H H'->Q (.ref y.k) H'
theorem ok'46 (T:Tx K mg A):cY P w K mg base CX0 5 A.Wr A.sH ["keepsake"] (ahG A):=by
 k_dat (T.F'46.ok,JG) "a"
 ·obtain ⟨x,rfl,_⟩:=h
  rfl
 ·obtain ⟨x,rfl,hK,r2,r64,ev,q⟩:=h
  refine ⟨_,(aF (cC (iH T.ah3 (aii T) tb_g% rfl T.Ip T.b'32 .nil bG (ao (aC (pv 0) rfl) (ao (aC (pv 0) rfl) (ao (aC (pv 0) rfl) aB)))))),?_⟩
  refine ⟨_,rfl,rdF hK.o T.bQ T.zX (vP ..) ⟨_,rfl,rdF hK.o T.bQ T.Du (vh ..) ⟨_,rfl,rdF hK.o T.bQ T.wG (sS ..) ?_⟩⟩⟩
  refine fun k dk n1 n2 n3=>⟨k,dk,x.room,x.reach,x.span,rfl,aj,r2,r64,ev,fun y H2 kp eqy ek hpts _ bt=>⟨rfl,?_⟩⟩
  have up2:Same H (upd (upd H dk (.own k)) k (.ins A.bw dk [])):=fun b o e=>by rw [au (ak e n1),au (ak e n2)];exact e
  rw [<- ek]
  exact q y H2 kp eqy (fun b m=>by
   rcases cU.mp (show b∈y.k::y.pts from m) with z | z
   ·rw [z,ek];exact n1
   ·exact up2.free (hpts b z)) fun b o e=>bt b o (up2 b o e) (ak e n1)
noncomputable def ahH (A:Ad):Sp:=fun vs H Q _=>∃ (x y:KS) (n m:Nat),vs=[.ref x.k,.ref y.k]/\Kp A H x/\Kp A H y/\Alk x y n m/\∀ (z:KS) (H':Hp),Kp A H' z->KP x y z->(∀ b∈z.all,H b=none)->(∀ b∈z.ems,H b=none)->Same H H'->Q (.ref z.k) H'
/-- the object alone -/
noncomputable def Ko (A:Ad) (H:Hp) (x:KS):Prop:=H x.k=some (.ins A.bw x.dk (kf (.int x.room) (.int x.reach) (.int x.span) (.ref x.cm.p) (.ref x.wn.p) (.ref x.up.p) (.ref x.dn.p) (.ref x.wi.p) (.ref x.di.p) (.ref x.ba.p)))
noncomputable def agd (A:Ad):Sp:=fun vs H Q E=>ahH A vs H Q E\/∃ x y:KS,vs=[.ref x.k,.ref y.k]/\Ko A H x/\Ko A H y/\(x.room≠y.room\/x.reach≠y.reach\/x.span≠y.span)/\E (.ref A.BW) none H
theorem ok'47 (T:Tx K mg A):cY P w K mg base (CXE P w) 6 A.Ws A.Il ["one","other"] (agd A):=by
 k_dat (T.F'47.okE,KQ) "a"
 ·rcases h with ⟨x,y,n,m,rfl,_⟩ | ⟨x,y,rfl,_⟩ <;> rfl
 ·skip
  refine ⟨_,(aq (d9 (PT.nox (PW.pt (pw_or (aR sY (aC (pv 0) rfl) (aC (pv 1) rfl) (aX _)) (pw_or (aR sY (aC (pv 0) rfl) (aC (pv 1) rfl) (aX _)) (pw_or1 (aR sY (aC (pv 0) rfl) (aC (pv 1) rfl) (aX _))))))) (aF (qH JQ T.iK rfl T.qK (ao BZ aB))) cQ)
   (aq (PS.nox (aV (i:=2) KQ.nd rfl (Or.inl rfl) (bB (ok'46 T) tb_g% rfl T.PB T.F'46.kp T.b'46 .nil bG (ao (pv 0) aB))))
   (aq (PS.nox (aU (pv 2) (bB (aik T) tb_g% rfl T.pH T.F'40.kp T.b'40 .nil uL (ao (aC (pv 0) rfl) (ao (aC (pv 1) rfl) aB))) rfl))
   (aq (PS.nox (aU (pv 2) (bB (aik T) tb_g% rfl T.pH T.F'40.kp T.b'40 .nil uL (ao (aC (pv 0) rfl) (ao (aC (pv 1) rfl) aB))) rfl))
   (aq (PS.nox (aU (pv 2) (bB (ain T) tb_g% rfl T.uV T.F'42.kp T.b'42 .nil uL (ao (aC (pv 0) rfl) (ao (aC (pv 1) rfl) aB))) rfl))
   (aq (PS.nox (aU (pv 2) (bB (ain T) tb_g% rfl T.uV T.F'42.kp T.b'42 .nil uL (ao (aC (pv 0) rfl) (ao (aC (pv 1) rfl) aB))) rfl))
   (aq (PS.nox (aU (pv 2) (bB (ok'43 T) tb_g% rfl T.Yt T.F'43.kp T.b'43 .nil uL (ao (aC (pv 0) rfl) (ao (aC (pv 1) rfl) aB))) rfl))
   (aq (PS.nox (aU (pv 2) (bB (ok'45 T) tb_g% rfl T.zZ T.F'45.kp T.b'45 .nil uL (ao (aC (pv 0) rfl) (ao (aC (pv 1) rfl) aB))) rfl))
   (aq (PS.nox (aU (pv 2) (bB (ok'44 T) tb_g% rfl T.Cz T.F'44.kp T.b'44 .nil uL (ao (aC (pv 0) rfl) (ao (aC (pv 1) rfl) aB))) rfl))
   (aF (PS.nox (cC (pv 2))))))))))))),?_⟩
  rcases h with ⟨x,y,n,m,rfl,hX,hY,al,q⟩ | ⟨x,y,rfl,hX,hY,hd,q⟩
  rotate_left
  ·skip
   refine ⟨_,rfl,rdF hX T.bQ T.zX (vP ..) ⟨_,rfl,rdF hY T.bQ T.zX (vP ..) ⟨rfl,_,rfl,eF (fun h=>Ea ⟨by show 1<=sizeLine;decide,q⟩) (fun h1=>?_)⟩⟩⟩
   refine ⟨_,rfl,rdF hX T.bQ T.Du (vh ..) ⟨_,rfl,rdF hY T.bQ T.Du (vh ..) ⟨rfl,_,rfl,eF (fun h=>Ea ⟨by show 1<=sizeLine;decide,q⟩) (fun h2=>?_)⟩⟩⟩
   refine ⟨_,rfl,rdF hX T.bQ T.wG (sS ..) ⟨_,rfl,rdF hY T.bQ T.wG (sS ..) ⟨rfl,_,rfl,?_⟩⟩⟩
   have no:∀ {a b:Int},¬ (!decide (V.int a=V.int b))=true->a=b:=fun {a b} h=>by
    by_cases z:a=b
    ·exact z
    ·exfalso;apply h;rw [decide_eq_false (fun y=>z (V.int.inj y))];rfl
   have e1:=no h1
   have e2:=no h2
   have hs:x.span≠y.span:=by
    rcases hd with z | z | z
    ·exact absurd (ajD e1) z
    ·exact absurd e2 z
    ·exact z
   rw [decide_eq_false (fun y=>hs (V.int.inj y))]
   exact Ea ⟨by show 1<=sizeLine;decide,q⟩
  refine ⟨_,rfl,rdF hX.o T.bQ T.zX (vP ..) ⟨_,rfl,rdF hY.o T.bQ T.zX (vP ..) ⟨rfl,_,rfl,tu (by rw [al.room]) ?_⟩⟩⟩
  refine ⟨_,rfl,rdF hX.o T.bQ T.Du (vh ..) ⟨_,rfl,rdF hY.o T.bQ T.Du (vh ..) ⟨rfl,_,rfl,tu (by rw [al.reach]) ?_⟩⟩⟩
  refine ⟨_,rfl,rdF hX.o T.bQ T.wG (sS ..) ⟨_,rfl,rdF hY.o T.bQ T.wG (sS ..) ⟨rfl,_,rfl,tu (by rw [al.span]) ?_⟩⟩⟩
  have r2:=al.kx.r2
  have r64:=al.kx.r64
  have ev:x.room % 2=0:=by have:=al.kx.up.g.ev;have:=al.kx.up.r;lia
  refine ⟨_,rfl,x,rfl,hX,r2,r64,ev,fun z0 H1 kp0 eq0 fr0 s0=>?_⟩
  obtain ⟨k,dk,r0,rc,sp,c1,c2,u1,u2,w5,d6,b7⟩:=z0
  obtain rfl:r0=x.room:=eq0.room
  obtain rfl:rc=x.reach:=eq0.reach
  obtain rfl:sp=x.span:=eq0.span
  have vk:H k=none:=fr0 k (cZ ..)
  have kG:=kp0
  have sG:=s0
  have o:H1 k=some (.ins A.bw dk (kf (.int x.room) (.int x.reach) (.int x.span) (.ref c1.p) (.ref c2.p) (.ref u1.p) (.ref u2.p) (.ref w5.p) (.ref d6.p) (.ref b7.p))):=kG.o
  have X:=hX.same sG
  have Y:=hY.same sG
  clear kp0 s0 eq0 fr0
  obtain ⟨W1,ok1⟩:=al.kx.cm.ok
  obtain ⟨W2,ok2⟩:=al.ky.cm.ok
  obtain ⟨W3,ok3⟩:=al.kx.wn.ok
  obtain ⟨W4,ok4⟩:=al.ky.wn.ok
  have yr:=al.room
  have er1:y.up.x.r=x.up.x.r:=by rw [al.kx.up.r,al.ky.up.r,al.room]
  have er2:y.dn.x.r=x.dn.x.r:=by rw [al.kx.dn.r,al.ky.dn.r,al.room]
  refine ⟨_,rfl,rdF X.o T.bQ T.Dv (Fd ..) ⟨_,rfl,rdF Y.o T.bQ T.Dv (Fd ..) (.inl ⟨x.cm.p,x.cm.dx,x.cm.d,y.cm.p,y.cm.dx,y.cm.d,x.room,x.cm.t,x.cm.l,y.cm.t,y.cm.l,x.cm.c,y.cm.c,rfl,X.cm.o,X.cm.d,(by rw [<- al.room];exact Y.cm.o),Y.cm.d,ok1.nd,ok1.pos,ok2.pos,by have:=zq y.cm.c x.cm.c;have:=ok1.len;have:=ok2.len;lia,by have:=ok1.len;have:=ok2.len;lia,fun p1 dx1 d1 b1 aa9 G1 np ne ft1 o1 o2 s1=>?_⟩)⟩⟩
  refine ⟨_,rfl,k,_,dk,_,rfl,s1 _ _ o,T.bQ,T.Dv,(by show 10<1000;decide),?_⟩
  rw [R6]
  have K2:Kp A (upd G1 k (.ins A.bw dk (kf (.int x.room) (.int x.reach) (.int x.span) (.ref p1) (.ref c2.p) (.ref u1.p) (.ref u2.p) (.ref w5.p) (.ref d6.p) (.ref b7.p)))) ⟨k,dk,x.room,x.reach,x.span,⟨p1,dx1,d1,x.cm.t+y.cm.t,x.cm.l+y.cm.l+aa9,b1⟩,c2,u1,u2,w5,d6,b7⟩:=kG.putC s1 np (f:=⟨p1,dx1,d1,_,_,b1⟩) ⟨o1,o2⟩
  have sG2:Same H (upd G1 k (.ins A.bw dk (kf (.int x.room) (.int x.reach) (.int x.span) (.ref p1) (.ref c2.p) (.ref u1.p) (.ref u2.p) (.ref w5.p) (.ref d6.p) (.ref b7.p)))):=fun b o e=>by rw [au (ak e vk)];exact (sG.trans s1) b o e
  have v1:H p1=none:=sG.free np
  clear kG o X Y sG
  generalize upd G1 k (.ins A.bw dk (kf (.int x.room) (.int x.reach) (.int x.span) (.ref p1) (.ref c2.p) (.ref u1.p) (.ref u2.p) (.ref w5.p) (.ref d6.p) (.ref b7.p)))=J1 at K2 sG2 ⊢
  have kG:=K2
  have sG:=sG2
  have o:J1 k=some (.ins A.bw dk (kf (.int x.room) (.int x.reach) (.int x.span) (.ref p1) (.ref c2.p) (.ref u1.p) (.ref u2.p) (.ref w5.p) (.ref d6.p) (.ref b7.p))):=kG.o
  have X:=hX.same sG
  have Y:=hY.same sG
  clear K2 sG2 s1 np
  refine ⟨_,rfl,rdF X.o T.bQ T.Dw (Fe ..) ⟨_,rfl,rdF Y.o T.bQ T.Dw (Fe ..) (.inl ⟨x.wn.p,x.wn.dx,x.wn.d,y.wn.p,y.wn.dx,y.wn.d,x.room,x.wn.t,x.wn.l,y.wn.t,y.wn.l,x.wn.c,y.wn.c,rfl,X.wn.o,X.wn.d,(by rw [<- al.room];exact Y.wn.o),Y.wn.d,ok3.nd,ok3.pos,ok4.pos,by have:=zq y.wn.c x.wn.c;have:=ok3.len;have:=ok4.len;lia,by have:=ok3.len;have:=ok4.len;lia,fun p2 dx2 d2 b2 yw G1 np ne ft2 o1 o2 s1=>?_⟩)⟩⟩
  refine ⟨_,rfl,k,_,dk,_,rfl,s1 _ _ o,T.bQ,T.Dw,(by show 10<1000;decide),?_⟩
  rw [R7]
  have K2:Kp A (upd G1 k (.ins A.bw dk (kf (.int x.room) (.int x.reach) (.int x.span) (.ref p1) (.ref p2) (.ref u1.p) (.ref u2.p) (.ref w5.p) (.ref d6.p) (.ref b7.p)))) ⟨k,dk,x.room,x.reach,x.span,⟨p1,dx1,d1,x.cm.t+y.cm.t,x.cm.l+y.cm.l+aa9,b1⟩,⟨p2,dx2,d2,x.wn.t+y.wn.t,x.wn.l+y.wn.l+yw,b2⟩,u1,u2,w5,d6,b7⟩:=kG.putW s1 np (f:=⟨p2,dx2,d2,_,_,b2⟩) ⟨o1,o2⟩
  have sG2:Same H (upd G1 k (.ins A.bw dk (kf (.int x.room) (.int x.reach) (.int x.span) (.ref p1) (.ref p2) (.ref u1.p) (.ref u2.p) (.ref w5.p) (.ref d6.p) (.ref b7.p)))):=fun b o e=>by rw [au (ak e vk)];exact (sG.trans s1) b o e
  have v2:H p2=none:=sG.free np
  clear kG o X Y sG
  generalize upd G1 k (.ins A.bw dk (kf (.int x.room) (.int x.reach) (.int x.span) (.ref p1) (.ref p2) (.ref u1.p) (.ref u2.p) (.ref w5.p) (.ref d6.p) (.ref b7.p)))=J2 at K2 sG2 ⊢
  have kG:=K2
  have sG:=sG2
  have o:J2 k=some (.ins A.bw dk (kf (.int x.room) (.int x.reach) (.int x.span) (.ref p1) (.ref p2) (.ref u1.p) (.ref u2.p) (.ref w5.p) (.ref d6.p) (.ref b7.p))):=kG.o
  have X:=hX.same sG
  have Y:=hY.same sG
  clear K2 sG2 s1 np
  have L1:=oM al.kx.up.g al.kx.up.t al.kx.few
  have L2':=oM al.ky.up.g al.ky.up.t al.ky.few
  refine ⟨_,rfl,rdF X.o T.bQ T.Dy (Z2 ..) ⟨_,rfl,rdF Y.o T.bQ T.Dy (Z2 ..) (.inl ⟨x.up.p,x.up.x.dx,x.up.x.a,y.up.p,y.up.x.dx,y.up.x.a,x.up.x.bs,y.up.x.bs,x.up.x.r,x.up.x.tt,x.up.x.ov,x.up.x.un,x.up.x.tn,y.up.x.tt,y.up.x.ov,y.up.x.un,y.up.x.tn,x.up.x.mi,x.up.x.ma,y.up.x.mi,y.up.x.ma,x.up.x.ls,y.up.x.ls,rfl,X.up,(by rw [<- er1];exact Y.up),al.kx.up.g.r2,al.kx.up.g.r64,by have:=L1.1;lia,by have:=L2'.1;lia,fun k hk=>iC ((al.kx.up.g.ahW (by rw [<- er1];exact al.ky.up.g)) k hk) (by decide),L1.2,L2'.2,fun p3 dx3 d3 bs3 out3 tn3 ov3 un3 G1 st3 rn3 np nd2 nc2 s1=>?_⟩)⟩⟩
  have fr3:H d3=none/\∀ c∈bs3,H c=none:=⟨sG.free nd2,fun c m=>sG.free (nc2 c m)⟩
  refine ⟨_,rfl,k,_,dk,_,rfl,s1 _ _ o,T.bQ,T.Dy,(by show 10<1000;decide),?_⟩
  rw [aa2]
  have K2:Kp A (upd G1 k (.ins A.bw dk (kf (.int x.room) (.int x.reach) (.int x.span) (.ref p1) (.ref p2) (.ref p3) (.ref u2.p) (.ref w5.p) (.ref d6.p) (.ref b7.p)))) ⟨k,dk,x.room,x.reach,x.span,⟨p1,dx1,d1,x.cm.t+y.cm.t,x.cm.l+y.cm.l+aa9,b1⟩,⟨p2,dx2,d2,x.wn.t+y.wn.t,x.wn.l+y.wn.l+yw,b2⟩,⟨p3,⟨dx3,d3,bs3,x.up.x.r,x.up.x.tt+y.up.x.tt,ov3,un3,tn3,lo2 x.up.x.mi y.up.x.mi,hi2 x.up.x.ma y.up.x.ma,out3⟩⟩,u2,w5,d6,b7⟩:=kG.putU s1 np (f:=⟨p3,⟨dx3,d3,bs3,x.up.x.r,_,ov3,un3,tn3,_,_,out3⟩⟩) rn3
  have sG2:Same H (upd G1 k (.ins A.bw dk (kf (.int x.room) (.int x.reach) (.int x.span) (.ref p1) (.ref p2) (.ref p3) (.ref u2.p) (.ref w5.p) (.ref d6.p) (.ref b7.p)))):=fun b o e=>by rw [au (ak e vk)];exact (sG.trans s1) b o e
  have v3:H p3=none:=sG.free np
  clear kG o X Y sG
  generalize upd G1 k (.ins A.bw dk (kf (.int x.room) (.int x.reach) (.int x.span) (.ref p1) (.ref p2) (.ref p3) (.ref u2.p) (.ref w5.p) (.ref d6.p) (.ref b7.p)))=J3 at K2 sG2 ⊢
  have kG:=K2
  have sG:=sG2
  have o:J3 k=some (.ins A.bw dk (kf (.int x.room) (.int x.reach) (.int x.span) (.ref p1) (.ref p2) (.ref p3) (.ref u2.p) (.ref w5.p) (.ref d6.p) (.ref b7.p))):=kG.o
  have X:=hX.same sG
  have Y:=hY.same sG
  clear K2 sG2 s1 np
  have L1:=oM al.kx.dn.g al.kx.dn.t al.kx.few
  have L2':=oM al.ky.dn.g al.ky.dn.t al.ky.few
  refine ⟨_,rfl,rdF X.o T.bQ T.Dz (Fg ..) ⟨_,rfl,rdF Y.o T.bQ T.Dz (Fg ..) (.inl ⟨x.dn.p,x.dn.x.dx,x.dn.x.a,y.dn.p,y.dn.x.dx,y.dn.x.a,x.dn.x.bs,y.dn.x.bs,x.dn.x.r,x.dn.x.tt,x.dn.x.ov,x.dn.x.un,x.dn.x.tn,y.dn.x.tt,y.dn.x.ov,y.dn.x.un,y.dn.x.tn,x.dn.x.mi,x.dn.x.ma,y.dn.x.mi,y.dn.x.ma,x.dn.x.ls,y.dn.x.ls,rfl,X.dn,(by rw [<- er2];exact Y.dn),al.kx.dn.g.r2,al.kx.dn.g.r64,by have:=L1.1;lia,by have:=L2'.1;lia,fun k hk=>iC ((al.kx.dn.g.ahW (by rw [<- er2];exact al.ky.dn.g)) k hk) (by decide),L1.2,L2'.2,fun p4 dx4 d4 bs4 out4 tn4 ov4 un4 G1 st4 rn4 np nd2 nc2 s1=>?_⟩)⟩⟩
  have fr4:H d4=none/\∀ c∈bs4,H c=none:=⟨sG.free nd2,fun c m=>sG.free (nc2 c m)⟩
  refine ⟨_,rfl,k,_,dk,_,rfl,s1 _ _ o,T.bQ,T.Dz,(by show 10<1000;decide),?_⟩
  rw [R9]
  have K2:Kp A (upd G1 k (.ins A.bw dk (kf (.int x.room) (.int x.reach) (.int x.span) (.ref p1) (.ref p2) (.ref p3) (.ref p4) (.ref w5.p) (.ref d6.p) (.ref b7.p)))) ⟨k,dk,x.room,x.reach,x.span,⟨p1,dx1,d1,x.cm.t+y.cm.t,x.cm.l+y.cm.l+aa9,b1⟩,⟨p2,dx2,d2,x.wn.t+y.wn.t,x.wn.l+y.wn.l+yw,b2⟩,⟨p3,⟨dx3,d3,bs3,x.up.x.r,x.up.x.tt+y.up.x.tt,ov3,un3,tn3,lo2 x.up.x.mi y.up.x.mi,hi2 x.up.x.ma y.up.x.ma,out3⟩⟩,⟨p4,⟨dx4,d4,bs4,x.dn.x.r,x.dn.x.tt+y.dn.x.tt,ov4,un4,tn4,lo2 x.dn.x.mi y.dn.x.mi,hi2 x.dn.x.ma y.dn.x.ma,out4⟩⟩,w5,d6,b7⟩:=kG.putD s1 np (f:=⟨p4,⟨dx4,d4,bs4,x.dn.x.r,_,ov4,un4,tn4,_,_,out4⟩⟩) rn4
  have sG2:Same H (upd G1 k (.ins A.bw dk (kf (.int x.room) (.int x.reach) (.int x.span) (.ref p1) (.ref p2) (.ref p3) (.ref p4) (.ref w5.p) (.ref d6.p) (.ref b7.p)))):=fun b o e=>by rw [au (ak e vk)];exact (sG.trans s1) b o e
  have v4:H p4=none:=sG.free np
  clear kG o X Y sG
  generalize upd G1 k (.ins A.bw dk (kf (.int x.room) (.int x.reach) (.int x.span) (.ref p1) (.ref p2) (.ref p3) (.ref p4) (.ref w5.p) (.ref d6.p) (.ref b7.p)))=J4 at K2 sG2 ⊢
  have kG:=K2
  have sG:=sG2
  have o:J4 k=some (.ins A.bw dk (kf (.int x.room) (.int x.reach) (.int x.span) (.ref p1) (.ref p2) (.ref p3) (.ref p4) (.ref w5.p) (.ref d6.p) (.ref b7.p))):=kG.o
  have X:=hX.same sG
  have Y:=hY.same sG
  clear K2 sG2 s1 np
  generalize hf1:Fq.mk p1 dx1 d1 (x.cm.t+y.cm.t) (x.cm.l+y.cm.l+aa9) b1=f1 at kG
  generalize hf2:Fq.mk p2 dx2 d2 (x.wn.t+y.wn.t) (x.wn.l+y.wn.l+yw) b2=f2 at kG
  generalize hf3:Ru.mk p3 ⟨dx3,d3,bs3,x.up.x.r,x.up.x.tt+y.up.x.tt,ov3,un3,tn3,lo2 x.up.x.mi y.up.x.mi,hi2 x.up.x.ma y.up.x.ma,out3⟩=f3 at kG
  generalize hf4:Ru.mk p4 ⟨dx4,d4,bs4,x.dn.x.r,x.dn.x.tt+y.dn.x.tt,ov4,un4,tn4,lo2 x.dn.x.mi y.dn.x.mi,hi2 x.dn.x.ma y.dn.x.ma,out4⟩=f4 at kG
  have q1:f1.p=p1:=by rw [<- hf1]
  have q2:f2.p=p2:=by rw [<- hf2]
  have q3:f3.p=p3:=by rw [<- hf3]
  have q4:f4.p=p4:=by rw [<- hf4]
  rw [<- q1,<- q2,<- q3,<- q4] at o
  have d1':FP x.room x.cm y.cm f1:=by rw [<- hf1];exact ⟨aa9,ft1,rfl,rfl⟩
  have d2':FP x.room x.wn y.wn f2:=by rw [<- hf2];exact ⟨yw,ft2,rfl,rfl⟩
  have d3':RP x.up.x y.up.x f3.x:=by rw [<- hf3];exact ⟨rfl,rfl,rfl,rfl,st3⟩
  have d4':RP x.dn.x y.dn.x f4.x:=by rw [<- hf4];exact ⟨rfl,rfl,rfl,rfl,st4⟩
  have g3:H f3.x.a=none/\∀ c∈f3.x.bs,H c=none:=by rw [<- hf3];exact fr3
  have g4:H f4.x.a=none/\∀ c∈f4.x.bs,H c=none:=by rw [<- hf4];exact fr4
  rw [<- q1] at v1
  rw [<- q2] at v2
  rw [<- q3] at v3
  rw [<- q4] at v4
  clear q1 q2 q3 q4 hf1 hf2 hf3 hf4
  refine ⟨_,rfl,rdF X.o T.bQ T.uP (kZ ..) ⟨_,rfl,rdF Y.o T.bQ T.uP (kZ ..) (.inl ⟨x.wi.p,x.wi.dx,x.wi.l,y.wi.p,y.wi.dx,y.wi.l,x.room,x.reach,x.wi.c,y.wi.c,x.wi.ps,y.wi.ps,rfl,X.wi,(by rw [<- al.room,<- al.reach];exact Y.wi),by have:=al.kx.aa4;have:=al.ky.aa4;lia,by lia,by lia,fun p5 dx5 d5 ps5 G1 np nd5 eb5 wn5 s1=>?_⟩)⟩⟩
  have vd5:H d5=none:=sG.free nd5
  refine ⟨_,rfl,k,_,dk,_,rfl,s1 _ _ o,T.bQ,T.uP,(by show 10<1000;decide),?_⟩
  rw [JH]
  have K2:Kp A (upd G1 k (.ins A.bw dk (kf (.int x.room) (.int x.reach) (.int x.span) (.ref f1.p) (.ref f2.p) (.ref f3.p) (.ref f4.p) (.ref p5) (.ref d6.p) (.ref b7.p)))) ⟨k,dk,x.room,x.reach,x.span,f1,f2,f3,f4,⟨p5,dx5,d5,x.wi.c+y.wi.c,ps5⟩,d6,b7⟩:=kG.putI s1 np (f:=⟨p5,dx5,d5,_,ps5⟩) wn5
  have sG2:Same H (upd G1 k (.ins A.bw dk (kf (.int x.room) (.int x.reach) (.int x.span) (.ref f1.p) (.ref f2.p) (.ref f3.p) (.ref f4.p) (.ref p5) (.ref d6.p) (.ref b7.p)))):=fun b o e=>by rw [au (ak e vk)];exact (sG.trans s1) b o e
  have v5:H p5=none:=sG.free np
  clear kG o X Y sG
  generalize upd G1 k (.ins A.bw dk (kf (.int x.room) (.int x.reach) (.int x.span) (.ref f1.p) (.ref f2.p) (.ref f3.p) (.ref f4.p) (.ref p5) (.ref d6.p) (.ref b7.p)))=J5 at K2 sG2 ⊢
  have kG:=K2
  have sG:=sG2
  have o:J5 k=some (.ins A.bw dk (kf (.int x.room) (.int x.reach) (.int x.span) (.ref f1.p) (.ref f2.p) (.ref f3.p) (.ref f4.p) (.ref p5) (.ref d6.p) (.ref b7.p))):=kG.o
  have X:=hX.same sG
  have Y:=hY.same sG
  clear K2 sG2 s1 np
  refine ⟨_,rfl,rdF X.o T.bQ T.DG (Fi ..) ⟨_,rfl,rdF Y.o T.bQ T.DG (Fi ..) (.inl ⟨x.di.p,x.di.dx,x.di.l,y.di.p,y.di.dx,y.di.l,x.room,x.di.n,x.di.v,y.di.n,y.di.v,x.di.C,y.di.C,rfl,X.di,(by rw [<- al.room];exact Y.di),al.kx.dl,(by rw [<- al.room];exact al.ky.dl),al.nx,al.ny,by lia,by lia,fun p6 dx6 l6 v6' G1 np nd6 ls6 dn6 s1=>?_⟩)⟩⟩
  have vl6:H l6=none:=sG.free nd6
  refine ⟨_,rfl,k,_,dk,_,rfl,s1 _ _ o,T.bQ,T.DG,(by show 10<1000;decide),?_⟩
  rw [Sg]
  have K2:Kp A (upd G1 k (.ins A.bw dk (kf (.int x.room) (.int x.reach) (.int x.span) (.ref f1.p) (.ref f2.p) (.ref f3.p) (.ref f4.p) (.ref p5) (.ref p6) (.ref b7.p)))) ⟨k,dk,x.room,x.reach,x.span,f1,f2,f3,f4,⟨p5,dx5,d5,x.wi.c+y.wi.c,ps5⟩,⟨p6,dx6,l6,x.di.n+y.di.n,v6',un x.di.C y.di.C⟩,b7⟩:=kG.putS s1 np (f:=⟨p6,dx6,l6,_,v6',_⟩) dn6
  have sG2:Same H (upd G1 k (.ins A.bw dk (kf (.int x.room) (.int x.reach) (.int x.span) (.ref f1.p) (.ref f2.p) (.ref f3.p) (.ref f4.p) (.ref p5) (.ref p6) (.ref b7.p)))):=fun b o e=>by rw [au (ak e vk)];exact (sG.trans s1) b o e
  have v6:H p6=none:=sG.free np
  clear kG o X Y sG
  generalize upd G1 k (.ins A.bw dk (kf (.int x.room) (.int x.reach) (.int x.span) (.ref f1.p) (.ref f2.p) (.ref f3.p) (.ref f4.p) (.ref p5) (.ref p6) (.ref b7.p)))=J6 at K2 sG2 ⊢
  have kG:=K2
  have sG:=sG2
  have o:J6 k=some (.ins A.bw dk (kf (.int x.room) (.int x.reach) (.int x.span) (.ref f1.p) (.ref f2.p) (.ref f3.p) (.ref f4.p) (.ref p5) (.ref p6) (.ref b7.p))):=kG.o
  have X:=hX.same sG
  have Y:=hY.same sG
  clear K2 sG2 s1 np
  refine ⟨_,rfl,rdF X.o T.bQ T.DK (sU ..) ⟨_,rfl,rdF Y.o T.bQ T.DK (sU ..) (.inl ⟨x.ba.p,x.ba.dx,x.ba.l,y.ba.p,y.ba.dx,y.ba.l,x.span,x.ba.q,y.ba.q,rfl,X.ba,(by rw [<- al.span];exact Y.ba),fun p7 dx7 l7 G1 np bn7 s1=>?_⟩)⟩⟩
  refine ⟨_,rfl,k,_,dk,_,rfl,s1 _ _ o,T.bQ,T.DK,(by show 10<1000;decide),?_⟩
  rw [Jj]
  have K2:Kp A (upd G1 k (.ins A.bw dk (kf (.int x.room) (.int x.reach) (.int x.span) (.ref f1.p) (.ref f2.p) (.ref f3.p) (.ref f4.p) (.ref p5) (.ref p6) (.ref p7)))) ⟨k,dk,x.room,x.reach,x.span,f1,f2,f3,f4,⟨p5,dx5,d5,x.wi.c+y.wi.c,ps5⟩,⟨p6,dx6,l6,x.di.n+y.di.n,v6',un x.di.C y.di.C⟩,⟨p7,dx7,l7,addQ x.ba.q y.ba.q⟩⟩:=kG.putB s1 np (f:=⟨p7,dx7,l7,_⟩) bn7
  have sG2:Same H (upd G1 k (.ins A.bw dk (kf (.int x.room) (.int x.reach) (.int x.span) (.ref f1.p) (.ref f2.p) (.ref f3.p) (.ref f4.p) (.ref p5) (.ref p6) (.ref p7)))):=fun b o e=>by rw [au (ak e vk)];exact (sG.trans s1) b o e
  have v7:H p7=none:=sG.free np
  clear kG o X Y sG
  generalize upd G1 k (.ins A.bw dk (kf (.int x.room) (.int x.reach) (.int x.span) (.ref f1.p) (.ref f2.p) (.ref f3.p) (.ref f4.p) (.ref p5) (.ref p6) (.ref p7)))=J7 at K2 sG2 ⊢
  have kG:=K2
  have sG:=sG2
  have o:J7 k=some (.ins A.bw dk (kf (.int x.room) (.int x.reach) (.int x.span) (.ref f1.p) (.ref f2.p) (.ref f3.p) (.ref f4.p) (.ref p5) (.ref p6) (.ref p7))):=kG.o
  have X:=hX.same sG
  have Y:=hY.same sG
  clear K2 sG2 s1 np
  refine ⟨_,rfl,q ⟨k,dk,x.room,x.reach,x.span,f1,f2,f3,f4,⟨p5,dx5,d5,x.wi.c+y.wi.c,ps5⟩,⟨p6,dx6,l6,x.di.n+y.di.n,v6',un x.di.C y.di.C⟩,⟨p7,dx7,l7,addQ x.ba.q y.ba.q⟩⟩ J7 kG ⟨rfl,rfl,rfl,d1',d2',d3',d4',⟨rfl,eb5⟩,⟨rfl,rfl,ls6⟩,rfl⟩ (fun b m=>?_) (fun b m=>?_) sG⟩
  rotate_left
  ·unfold KS.ems at m
   simp only [cU,dg] at m
   rcases m with rfl | rfl | rfl | rfl | m | m
   ·exact g3.1
   ·exact g4.1
   ·exact vd5
   ·exact vl6
   ·exact g3.2 b m
   ·exact g4.2 b m
  unfold KS.all at m
  simp only [cU,jd,or_false] at m
  rcases m with rfl | rfl | rfl | rfl | rfl | rfl | rfl | rfl
  all_goals assumption
open MK
structure T3 where
 (a b c:Int)
noncomputable def t3L (t:T3):List V:=[.int t.a,.int t.b,.int t.c]
noncomputable def abb (t:T3) (r:R3):T3:=if r.kd=0 then ⟨t.a+r.w,t.b,t.c+1⟩ else if r.kd=1 then ⟨t.a,t.b+r.w,t.c+1⟩ else ⟨t.a,t.b,t.c+r.w⟩
noncomputable def agf:Sp:=fun vs H Q _=>∃ (T t:Addr) (x:T3) (r:R3),vs=[.ref T,.ref t]/\H T=some (.lst (t3L x))/\H t=some (r3V r)/\r.ok/\∀ (L:Addr) (H':Hp),H L=none->H' L=some (.lst (t3L (abb x r)))->Same H H'->Q (.ref L) H'
theorem ok'48 (T:Tx K mg A):cY P w K mg base CX0 1 A.Wt A.qm ["_law_totals","_law_row"] agf:=by
 k_dat (T.F'48.ok,uY) "a"
 ·obtain ⟨T,t,x,r,rfl,_⟩:=h
  rfl
 ·obtain ⟨T',t,x,⟨kd,th,w⟩,rfl,hT,ht,ok,q⟩:=h
  have k0:0<=kd:=ok.k0
  have k2:kd<=2:=ok.k2
  unfold r3V at ht
  unfold t3L at hT
  unfold abb t3L at q
  refine ⟨_,(aq (aV (i:=2) uY.nd rfl (Or.inl rfl) (mU (yg rfl) (by rfl) T.IW UJ (ao (pv 0) aB)))
   (aq (d9 (aR uH (cI (ixG (bN hr)) (pv 1) aA (fun _ _=>rfl)) aA (aX _)) (aF (Y6 (pv 2) (cI (ixG (bN hr)) (pv 1) aA (fun _ _=>rfl)) RN (cI (ixG (bN hr)) (pv 1) aA (fun _ _=>rfl)) GR set_list)) cQ)
   (aq (Y6 (pv 2) aA RN (Qz (aR mJ (cI (ixG (bN hr)) (pv 1) aA (fun _ _=>rfl)) aA (aX _)) (cI (ixG (bN hr)) (pv 1) aA (fun _ _=>rfl)) aA) GR set_list)
   (aF (cC (pv 2)))))),?_⟩
  refine ⟨_,rfl,.inl ⟨T',_,rfl,.inl (.inl (.inl hT)),fun L fL=>?_⟩⟩
  have s1:=Same.new (o:=.lst [.int x.a,.int x.b,.int x.c]) fL
  have e1:(upd H L (.lst [.int x.a,.int x.b,.int x.c])) L=some (.lst [.int x.a,.int x.b,.int x.c]):=aj
  generalize upd H L (.lst [.int x.a,.int x.b,.int x.c])=H1 at s1 e1 ⊢
  have ht1:=s1 _ _ ht
  have ntL:t≠L:=ak ht fL
  have kp:∀ {o:HO} {xs:List V},(upd H1 L o) t=some (.tup xs)↔H1 t=some (.tup xs):=fun {o xs}=>by rw [au ntL]
  have sm:∀ {G:Hp} {o:HO},(∀ b,b≠L->G b=H1 b)->Same H (upd G L o):=fun {G o} hg b v e=>by
   have nb:=ak e fL
   rw [au nb,hg b nb];exact s1 _ _ e
  rcases (show kd=0\/kd=1\/kd=2 by lia) with rfl | rfl | rfl
  ·refine ⟨_,rfl,eZ (.inl (.inl ht1)) (v:=.int 0) rfl ⟨_,_,rfl,rfl,_,rfl,eF (fun _=>?_) (fun h=>absurd (decide_eq_true (by decide)) h)⟩⟩
   refine ⟨_,rfl,_,rfl,eZ (.inl (.inl ht1)) (v:=.int 0) rfl ⟨L,_,0,_,rfl,rfl,e1,rfl,_,rfl,eZ (.inl (.inl ht1)) (v:=.int w) rfl ⟨_,_,rfl,rfl,L,_,0,0,rfl,rfl,e1,rfl,?_⟩⟩⟩
   refine ⟨_,rfl,L,_,2,_,rfl,rfl,aj,rfl,?_⟩
   refine ⟨_,rfl,eZ (.inl (.inl (kp.mpr ht1))) (v:=.int 0) rfl ⟨rfl,_,rfl,eF (fun h=>absurd (of_decide_eq_true h) (by intro z;cases z)) (fun _=>?_)⟩⟩
   refine ⟨_,_,rfl,rfl,L,_,2,2,rfl,rfl,aj,rfl,?_⟩
   exact ⟨_,rfl,q L _ fL aj (sm fun b nb=>au nb)⟩
  ·refine ⟨_,rfl,eZ (.inl (.inl ht1)) (v:=.int 1) rfl ⟨_,_,rfl,rfl,_,rfl,eF (fun _=>?_) (fun h=>absurd (decide_eq_true (by decide)) h)⟩⟩
   refine ⟨_,rfl,_,rfl,eZ (.inl (.inl ht1)) (v:=.int 1) rfl ⟨L,_,1,_,rfl,rfl,e1,rfl,_,rfl,eZ (.inl (.inl ht1)) (v:=.int w) rfl ⟨_,_,rfl,rfl,L,_,1,1,rfl,rfl,e1,rfl,?_⟩⟩⟩
   refine ⟨_,rfl,L,_,2,_,rfl,rfl,aj,rfl,?_⟩
   refine ⟨_,rfl,eZ (.inl (.inl (kp.mpr ht1))) (v:=.int 1) rfl ⟨rfl,_,rfl,eF (fun h=>absurd (of_decide_eq_true h) (by intro z;cases z)) (fun _=>?_)⟩⟩
   refine ⟨_,_,rfl,rfl,L,_,2,2,rfl,rfl,aj,rfl,?_⟩
   exact ⟨_,rfl,q L _ fL aj (sm fun b nb=>au nb)⟩
  ·refine ⟨_,rfl,eZ (.inl (.inl ht1)) (v:=.int 2) rfl ⟨_,_,rfl,rfl,_,rfl,eF (fun h=>absurd (of_decide_eq_true h) (by decide)) (fun _=>?_)⟩⟩
   refine ⟨_,rfl,L,_,2,_,rfl,rfl,e1,rfl,?_⟩
   refine ⟨_,rfl,eZ (.inl (.inl ht1)) (v:=.int 2) rfl ⟨rfl,_,rfl,eF (fun _=>?_) (fun h=>absurd (decide_eq_true rfl) h)⟩⟩
   refine ⟨_,rfl,eZ (.inl (.inl ht1)) (v:=.int w) rfl ⟨_,_,rfl,rfl,L,_,2,2,rfl,rfl,e1,rfl,?_⟩⟩
   exact ⟨_,rfl,q L _ fL aj (sm fun b nb=>rfl)⟩
noncomputable def spCF (A:Ad):Sp:=fun vs H Q _=>∃ (f:Fq) (room n:Nat),vs=[.ref f.p,.int room,.int f.t]/\sV A H room f/\Gf room f n/\room<=64/\∀ H',Same H H'->Q (.bl true) H'
theorem aio (T:Tx K mg A):cY P w K mg base CX0 1 A.Wu A.oA ["_law_frequent","_law_room","_law_total"] (spCF A):=by
 k_dat (T.F'49.ok,tK) "a"
 ·obtain ⟨f,room,n,rfl,_⟩:=h
  rfl
 ·obtain ⟨f,room,n,rfl,hF,hG,r64,q⟩:=h
  obtain ⟨W,ok⟩:=hG.ok
  have ol:=ok.len
  have lv:(vals f.c).length=f.c.length:=bA _
  refine ⟨_,(aq (aV (i:=3) tK.nd rfl (Or.inl rfl) (afw T.IW (aC (pv 0) rfl) ⟨rfl,rfl⟩ rfl))
   (aq (d9 (PW.pt (pw_or (aR v8 (bF cD (by rfl) T.g8 gQ (ao (pv 3) aB)) (pv 1) (aX _)) (pw_or (aR sY (aC (pv 0) rfl) (pv 2) (aX _)) (pw_or1 (aR v8 (bF cD (by rfl) T.g8 gQ (ao (zy (cl:=[]) (N:=["_law_count"]) (caps:=[]) (tt:=_) (te:=_) rfl (by with_unfolding_all rfl) tb_g% rfl tb_g% trivial (lX (by with_unfolding_all rfl)) tb_g% rfl rfl rfl (dZ.at (k:=1) (show dZ _ _ _ _ 1 [] from trivial)) (pq (pv 3)) (fun _ _ _ _=>(zx (aR uH (pv 0) aA (aX _)))) (fun _ _ _ _=>(pv 0))) aB)) aA (aX _)))))) (aF (cC yW)) cQ)
   (aF (cC (Xi (pA aei (aC (pv 0) rfl) aA (aX _)) (Oe (pA JX (aJ bW (bF (vJ rfl) (by rfl) T.ZP Nf (ao (pv 3) aB)) (aJ jc (aJ bW (pv 1) aA) (aC (pv 0) rfl))) (pv 2) (aX _)))))))),?_⟩
  refine ⟨_,rfl,rdF hF.o T.fK T.Ds (vO _ _ _ _) ⟨f.d,emb f.c,rfl,.inl hF.d,fun D hD=>?_⟩⟩
  rw [QW]
  have s1:=Same.new (o:=.lst ((vals f.c).map V.int)) hD
  have e1:(upd H D (.lst ((vals f.c).map V.int))) D=some (.lst ((vals f.c).map V.int)):=aj
  generalize upd H D (.lst ((vals f.c).map V.int))=H1 at s1 e1 ⊢
  have F1:=hF.same s1
  refine ⟨_,rfl,eX (.inl (.inl e1)) ⟨_,rfl,_,_,rfl,rfl,_,rfl,eF (fun h=>absurd (of_decide_eq_true h) (by rw [bA];lia)) (fun _=>?_)⟩⟩
  refine ⟨_,rfl,rdF F1.o T.fK T.zW (Ah _ _ _ _) ⟨_,rfl,rfl,_,rfl,tu rfl ?_⟩⟩
  refine ⟨_,rfl,D,rfl,⟨_,.inl (.inl e1)⟩,fun E' hE=>?_⟩
  refine uM (K:=K) (a:=D) (xs:=(vals f.c).map V.int) (fun i ys H2=>ys=[]/\H2=upd H1 E' (.lst [])) ⟨rfl,rfl⟩ ?_ ?_ ?_ ?_ ?_
  ·rintro i ys H2 hi ⟨rfl,rfl⟩
   exact ⟨.inl (.inl ((Same.new hE) _ _ e1)),aj,by show 0<sizeLine;decide⟩
  ·rintro i ys H2 v hx ⟨rfl,rfl⟩
   obtain ⟨z,hz,rfl⟩:=int_at hx
   obtain ⟨p,mp,e⟩:=jV.mp (List.mem_of_getElem? hz)
   have:=ok.pos p mp
   exact ⟨_,rfl,_,_,rfl,rfl,_,rfl,eF (fun h=>absurd (of_decide_eq_true h) tb_g%) (fun _=>⟨aj,rfl,rfl⟩)⟩
  ·rintro ys H2 ⟨rfl,rfl⟩
   refine eX (.inl (.inl aj)) ⟨_,_,rfl,rfl,_,rfl,eF (fun h=>absurd (of_decide_eq_true h) (by decide)) (fun _=>?_)⟩
   have s2:=Same.new (o:=.lst []) hE
   have s12:=s1.trans s2
   have e2:=s2 _ _ e1
   generalize upd H1 E' (.lst [])=H2 at s2 s12 e2 ⊢
   have F2:=hF.same s12
   have l0:=ok.l0
   have sm:=ok.sum
   refine ⟨_,rfl,rdF F2.o T.fK T.wD (Ai _ _ _ _) ⟨_,_,rfl,rfl,_,rfl,eF (fun _=>?_) (fun h=>absurd (decide_eq_true tb_g%) h)⟩⟩
   refine ⟨_,rfl,D,vals f.c,rfl,.inl (.inl e2),?_⟩
   refine ⟨_,rfl,_,_,rfl,rfl,_,rfl,rdF F2.o T.fK T.wD (Ai _ _ _ _) ⟨_,_,rfl,rfl,O3 tb_g% tb_g%,_,_,rfl,rfl,_,rfl,_,_,rfl,rfl,?_⟩⟩
   dsimp only
   rw [decide_eq_true sm]
   exact q _ s12
  ·exact fun σ H R R' hr h=>jx (lg (bO 0) (jw _)) σ H R R' hr h
  ·exact bO 0
open MK
theorem YC {K:bh} {a b:Addr} (ha:SqL K H a (ns.map V.int)) (hb:SqL K H b (ns.map V.int)):Alike K H 1 (.ref a) (.ref b) :=
 .lst ha hb rfl fun i x y hx hy=>by
  have e:x=y:=dB (hx.symm.trans hy)
  subst e
  obtain ⟨z,_,rfl⟩:=int_at hx
  exact .flat rfl
theorem agg {T:Int} (h0:0<=T) (h:(2:Int) ^ n<=T):n<Dd T:=by
 have:=ag7 h0
 rcases jW n (Dd T) with z | z
 ·exact z
 ·have p:=xJ (show 0<2 by decide) z
  have c1:((2 ^ n:Nat):Int)=(2:Int) ^ n:=by rw [uy];rfl
  have c2:((2 ^ (Dd T):Nat):Int)=(2:Int) ^ (Dd T):=by rw [uy];rfl
  lia
theorem QG {xs:List α} {v:α} (h:xs.getLast? = some v):atI xs (-1)=some v:=by
 have ne:xs≠[]:=fun e=>by rw [e] at h;cases h
 have l1:0<xs.length:=T4.mpr ne
 unfold atI ixN
 rw [if_neg tb_g%,if_pos tb_g%]
 rw [List.getLast?_eq_getElem?] at h
 show xs[((-1:Int)+xs.length).toNat]? = _
 rw [show ((-1:Int)+xs.length).toNat=xs.length-1 by lia]
 exact h
noncomputable def spRF (A:Ad):Sp:=fun vs H Q _=>∃ (p:Addr) (f:Rs) (room n:Nat),vs=[.ref p,.int room,.int f.tt]/\RnX A H p f/\Gr room f n/\n<=60000/\∀ H',Same H H'->Q (.bl true) H'
theorem aip (T:Tx K mg A):cY P w K mg base CX0 1 A.Wv A.qp ["_law_rungs","_law_room","_law_total"] (spRF A):=by
 k_dat (T.F'50.ok,iQ) "a"
 ·obtain ⟨p,f,room,n,rfl,_⟩:=h
  rfl
 ·obtain ⟨p,f,room,n,rfl,hR,hG,few,q⟩:=h
  have gd:=hG.g
  have er:=hG.r
  have l6:=(oM gd hG.t few).1
  have hs:=gd.small
  have r6:=gd.r64
  have r2:=gd.r2
  have nb:f.bs.length=f.ls.length:=hR.l.n
  refine ⟨_,(aq (aV (i:=3) iQ.nd rfl (Or.inl rfl) (aC (pv 0) rfl))
   (aq (aV (i:=4) iQ.nd rfl (Or.inl rfl) aA)
   (aq (rE oX rfl (jC rfl T.pI (ao (bF cD (by rfl) T.g8 gQ (ao (pv 3) aB)) aB)) (gM (i:=5) iQ.nd rfl (Or.inl rfl)) (aq (d9 (PW.pt (pw_or (aR v8 (bF cD (by rfl) T.g8 gQ (ao (cI (ixG (bN hr)) (pv 3) (pv 5) (fun _ _=>rfl)) aB)) (pv 1) (aX _)) (pw_or1 (aR (akc hr.units) (cI (ixG (bN hr)) (pv 3) (pv 5) (fun _ _=>rfl)) (bF (jM rfl) (by rfl) T.oE Br (ao (cI (ixG (bN hr)) (pv 3) (pv 5) (fun _ _=>rfl)) aB)) (aX _))))) (aF (cC yW)) cQ)
   (aF (Xk (i:=4) iQ.nd rfl (Or.inl rfl) (aJ aeg (bF cD (by rfl) T.g8 gQ (ao (cI (ixG (bN hr)) (pv 3) (pv 5) (fun _ _=>rfl)) aB)) (pv 5)) GR))))
   (aq (d9 (PW.pt (pw_or (aR sY (pv 4) (pv 2) (aX _)) (pw_or (aR sY (aC (pv 0) rfl) (pv 2) (aX _)) (pw_or1 (aR v8 (bF cD (by rfl) T.g8 gQ (ao (pv 3) aB)) (ajN PySem.F.plainAttrs_int adq PySem.F.type_int_bit_length ag5 (pv 2)) (aX _)))))) (aF (cC yW)) cQ)
   (aq (d9 (PW.pt (pw_and (aR v8 (pv 2) aA (aX _)) (pw_and1 (aR mJ (bF cD (by rfl) T.g8 gQ (ao (cI (ixG (bN hr)) (pv 3) (aee Xo aA) (fun _ _=>rfl)) aB)) aA (aX _))))) (aF (cC yW)) cQ)
   (aF (cC (pA JX (aJ jc (aJ bW (aC (pv 0) rfl) (aC (pv 0) rfl)) (pv 1)) (aJ jc (pv 2) (bF (Cg rfl) (by rfl) T.ZM UL (ao aA (ao (aJ xY (bF cD (by rfl) T.g8 gQ (ao (pv 3) aB)) aA) aB)))) (aX _))))))))),?_⟩
  refine ⟨_,rfl,rdF hR.o T.bT T.wC (qL ..) ?_⟩
  refine ⟨_,rfl,eX (.inl (.inl hR.l.o)) ⟨_,rfl,by rw [bA];lia,by rw [bA];lia,?_⟩⟩
  refine vo (fun i σ G=>∃ y:Option V,σ=[some (.ref p),some (.int room),some (.int f.tt),some (.ref f.a),some (.int (RG.val (f.ls.take i):Nat)),y]/\Same H G) ⟨none,rfl,Same.refl _⟩ ?_ ?_
  ·rintro i σ G hi ⟨y,rfl,sG⟩
   have RG':=hR.same sG
   have hi':i<f.ls.length:=by rw [bA] at hi;lia
   obtain ⟨b,l,eb,el,hb⟩:=RG'.l.at hi'
   have ml:=List.mem_of_getElem? el
   have hl:=hs l ml
   have lr:=gd.sm l ml
   have ix:atI (f.bs.map V.ref) ((0:Int)+i)=some (.ref b):=by rw [xR];exact LL.ix eb
   refine ⟨_,rfl,_,rfl,dO (.inl (.inl RG'.l.o)) (v:=.ref b) ix (eX (.inl (.inl hb)) ⟨_,rfl,_,_,rfl,rfl,_,rfl,eF (fun h=>absurd (of_decide_eq_true h) (by rw [bA];lia)) (fun _=>?_)⟩)⟩
   refine ⟨_,rfl,_,rfl,dO (.inl (.inl RG'.l.o)) (v:=.ref b) ix ⟨_,rfl,_,rfl,dO (.inl (.inl RG'.l.o)) (v:=.ref b) ix (.inr ⟨b,l,rfl,.inl (.inl hb),by lia,fun c ns hc pm so=>?_⟩)⟩⟩
   obtain rfl:ns=l:=(RG.nM pm so).trans (RG.ae9 (gd.sd l ml))
   have s1:=Same.new (o:=.lst (ns.map V.int)) hc
   have f1:(upd G c (.lst (ns.map V.int))) c=some (.lst (ns.map V.int)):=aj
   generalize upd G c (.lst (ns.map V.int))=G1 at s1 f1 ⊢
   refine ⟨1,b,c,rfl,rfl,by decide,YC (.inl (.inl (s1 _ _ hb))) (.inl (.inl f1)),_,rfl,zp ?_⟩
   refine ⟨_,rfl,_,rfl,_,rfl,dO (.inl (.inl (s1 _ _ RG'.l.o))) (v:=.ref b) ix (eX (.inl (.inl (s1 _ _ hb))) ⟨_,rfl,_,_,rfl,rfl,⟨by lia,by lia,by rw [bA];lia⟩,_,_,rfl,rfl,?_⟩)⟩
   refine ⟨some (.int ((0:Int)+i)),?_,sG.trans s1⟩
   have e1:((RG.val (f.ls.take i):Nat):Int)+((ns.map V.int).length:Int)*2 ^ ((0:Int)+i).toNat=((RG.val (f.ls.take (i+1)):Nat):Int):=by
    rw [RG.Rp el,Bv,Vd,uy,xR,Vc,bA];rfl
   rw [<- e1];rfl
  ·rintro σ G ⟨y,rfl,sG⟩
   have R1:=hR.same sG
   have ev:((RG.val (f.ls.take ((f.bs.map V.ref).length:Int).toNat):Nat):Int)=f.tt:=by
    rw [bA,nb,Vc,qT];exact gd.vl
   rw [ev]
   refine ⟨_,rfl,_,rfl,rfl,_,rfl,tu rfl ?_⟩
   refine ⟨_,rfl,rdF R1.o T.bT T.zO (z9 ..) ⟨_,rfl,rfl,_,rfl,tu rfl ?_⟩⟩
   have t0:0<=f.tt:=by have:=gd.vl;lia
   have hbit:f.ls.length<=Dd f.tt:=by
    by_cases ne:f.ls=[]
    ·rw [ne];exact cB _
    ·have:=agg (T:=f.tt) (n:=f.ls.length-1) t0 (gd.bits ne);lia
   refine ⟨_,rfl,eX (.inl (.inl R1.l.o)) ⟨_,rfl,rfl,f.tt,rfl,rfl,_,_,rfl,rfl,_,rfl,eF (fun h=>absurd (of_decide_eq_true h) (by rw [bA];lia)) (fun _=>?_)⟩⟩
   have fin:(f.ov+f.un)*(room:Int)<=f.tt*(if (f.ls.length:Int)-1>0 then (f.ls.length:Int)-1 else 0):=by
    by_cases ne:f.ls=[]
    ·have:=gd.pt
     rw [ne] at this ⊢
     have h2:(f.ov+f.un)*f.r<=0:=this
     rw [er] at h2
     show _<=f.tt*(if (-1:Int)>0 then (-1:Int) else 0)
     rw [if_neg (by decide),ade];exact h2
    ·have h1:=gd.near ne
     have l1:0<f.ls.length:=T4.mpr ne
     rw [er] at h1
     by_cases z:(f.ls.length:Int)-1>0
     ·rw [if_pos z];exact h1
     ·rw [if_neg z,show (0:Int)=(f.ls.length:Int)-1 by lia];exact h1
   have last:∀ Q':Prop,Q'->(if decide (f.tt>0)=true then Q' else Q'):=fun Q' h=>by split <;> exact h
   refine ⟨_,rfl,_,_,rfl,rfl,_,rfl,eF (fun h=>?_) (fun _=>zp ?_)⟩
   ·have hp:0<f.tt:=of_decide_eq_true h
    have ne:f.ls≠[]:=fun e=>by
     have:=gd.vl
     rw [e] at this
     have z:((0:Nat):Int)=f.tt:=this
     lia
    have l1:0<f.ls.length:=T4.mpr ne
    obtain ⟨b,l,eb,el,hb⟩:=R1.l.at (i:=f.ls.length-1) tb_g%
    have gl:f.ls.getLast? = some l:=by rw [List.getLast?_eq_getElem?];exact el
    have lne:l≠[]:=gd.fl l gl
    have gb:(f.bs.map V.ref).getLast? = some (.ref b):=by rw [List.getLast?_eq_getElem?,bA,nb,iB,eb];rfl
    refine ⟨_,rfl,_,rfl,dO (.inl (.inl R1.l.o)) (v:=.ref b) (QG gb) (eX (.inl (.inl hb)) ⟨rfl,_,rfl,eF (fun h=>absurd (V.int.inj (of_decide_eq_true h)) (by rw [bA];intro z;exact lne (vX.mp tb_g%))) (fun _=>?_)⟩)⟩
    refine ⟨_,rfl,rdF R1.o T.bT T.wA (Aa ..) ⟨_,rfl,rdF R1.o T.bT T.wB (uZ ..) ⟨_,_,rfl,rfl,_,rfl,_,_,rfl,rfl,fB tb_g% tb_g%,?_⟩⟩⟩
    refine ⟨_,rfl,_,rfl,eX (.inl (.inl R1.l.o)) ⟨_,_,rfl,rfl,_,_,rfl,_,_,rfl,rfl,fB (by rw [bA];split <;> lia) (by rw [bA];split <;> lia),_,_,rfl,rfl,?_⟩⟩
    rw [bA,nb]
    dsimp only
    rw [decide_eq_true fin]
    exact q _ sG
   ·refine ⟨_,rfl,rdF R1.o T.bT T.wA (Aa ..) ⟨_,rfl,rdF R1.o T.bT T.wB (uZ ..) ⟨_,_,rfl,rfl,_,rfl,_,_,rfl,rfl,fB tb_g% tb_g%,?_⟩⟩⟩
    refine ⟨_,rfl,_,rfl,eX (.inl (.inl R1.l.o)) ⟨_,_,rfl,rfl,_,_,rfl,_,_,rfl,rfl,fB (by rw [bA];split <;> lia) (by rw [bA];split <;> lia),_,_,rfl,rfl,?_⟩⟩
    rw [bA,nb]
    dsimp only
    rw [decide_eq_true fin]
    exact q _ sG
open MK
noncomputable def spBF:Sp:=fun vs H Q _=>∃ (l:Addr) (room:Nat) (k c:Int) (ps:List Bp) (rows:List WN.Rw),vs=[.ref l,.int room]/\Bxs H l ps/\WN.Inv room k c rows (bx ps)/\2<=room/\room<=64/\ps.length<=5100/\∀ H',Same H H'->Q (.bl true) H'
theorem Jl:∀ {bs:List WN.Box},(∀ b∈bs,1<=b.s)->(bs.length:Int)<=WN.sum bs
 | [],_=>cP _
 | b::bs,h=>by
  have h1:=h b cZ
  have h2:=Jl fun o m=>h o (gk b m)
  rw [WN.sum_cons,iY];lia
theorem ok'51 (T:Tx K mg A):cY P w K mg base CX0 1 A.Ww A.qt ["_law_boxes","_law_room"] spBF:=by
 k_dat (T.F'51.ok,fW) "a"
 ·obtain ⟨l,room,k,c,ps,rows,rfl,_⟩:=h
  rfl
 ·obtain ⟨l,room,k,c,ps,rows,rfl,hb,iv,r2,r64,h51,q⟩:=h
  refine ⟨_,(aq (aV (i:=2) fW.nd rfl (Or.inl rfl) (bF (vJ rfl) (by rfl) T.ZP Nf (ao (zy (cl:=[]) (N:=["_law_box"]) (caps:=[]) (tt:=_) (te:=(tOp (vR K) _ _)) rfl (by with_unfolding_all rfl) tb_g% rfl tb_g% trivial (lX (by with_unfolding_all rfl)) tb_g% rfl rfl rfl (dZ.at (k:=1) (show dZ _ _ _ _ 1 [] from trivial)) (pq (pv 0)) (fun _ _ _ _=>rJ) (fun _ _ _ _=>(cI (ixG (by exact bN hr)) (pv 0) aA (fun _ _=>rfl)))) aB)))
   (aq (aV (i:=3) fW.nd rfl (Or.inl rfl) aA)
   (aq (aV (i:=4) fW.nd rfl (Or.inl rfl) (pv 2))
   (aq (rE oX rfl (jC rfl T.pI (ao (aJ gw (aJ xY (bF cD (by rfl) T.g8 gQ (ao (pv 0) aB)) aA) aA) aB)) (gM (i:=5) fW.nd rfl (Or.inl rfl)) (aq (aV (i:=3) fW.nd rfl (Or.inl rfl) (aJ jc (pv 3) (aJ bW (pv 1) aA)))
   (aF (aV (i:=4) fW.nd rfl (Or.inl rfl) (aJ jc (pv 4) (pv 1))))))
   (aF (cC (pe_or (Xi (pA uH (bF cD (by rfl) T.g8 gQ (ao (pv 0) aB)) aA (aX _)) (Oe (pA JX (bF cD (by rfl) T.g8 gQ (ao (pv 0) aB)) (pv 2) (aX _)))) (Oe (pA uH (pv 3) (pv 4) (aX _)))))))))),?_⟩
  refine ⟨_,rfl,l,rfl,⟨_,.inl (.inl hb.l)⟩,fun D hD=>?_⟩
  refine Kl (K:=K) (a:=l) (xs:=ps.map fun p=>V.ref p.1) (fun i ys G=>ys=((ps.take i).map fun p=>p.2.s).map V.int/\G=upd H D (.lst ys)) ⟨rfl,rfl⟩ ?_ ?_ ?_ ?_
  ·rintro i ys G hi ⟨rfl,rfl⟩
   refine ⟨.inl (.inl ((Same.new hD) _ _ hb.l)),aj,Jh ?_⟩
   rw [bA,bA,gJ]
   lia
  ·rintro i ys G x hx ⟨rfl,rfl⟩
   obtain ⟨z,hz,rfl⟩:=Ez hx
   have ht:=(Same.new (o:=.lst (((ps.take i).map fun p=>p.2.s).map V.int)) hD) _ _ (hb.t z (List.mem_of_getElem? hz))
   refine ⟨_,rfl,eZ (.inl (.inl ht)) (v:=.int z.2.s) rfl ⟨aj,?_,by rw [cJ]⟩⟩
   rw [vY,hz,dN,dN];rfl
  ·rintro ys G ⟨rfl,rfl⟩
   rw [bA,qT]
   refine ⟨D,ps.map fun p=>p.2.s,rfl,.inl (.inl aj),?_⟩
   have s1:=Same.new (o:=.lst ((ps.map fun p=>p.2.s).map V.int)) hD
   generalize upd H D (.lst ((ps.map fun p=>p.2.s).map V.int))=H1 at s1 ⊢
   have es:(ps.map fun p=>p.2.s).sum=WN.sum (bx ps):=by unfold WN.sum bx;rw [mY];rfl
   rw [es]
   have hl1:=s1 _ _ hb.l
   have bl:(bx ps).length=ps.length:=yH ps
   have sl:=Jl (bs:=bx ps) fun b m=>iv.pos m
   have few:=iv.few tb_g%
   generalize WN.sum (bx ps)=W at sl few ⊢
   have ll:((ps.map fun p=>V.ref p.1).length:Int)=(ps.length:Int):=by rw [bA]
   refine ⟨_,rfl,?_⟩
   refine ⟨_,rfl,eX (.inl (.inl hl1)) ⟨_,_,rfl,rfl,_,_,rfl,rfl,⟨by decide,by decide⟩,_,rfl,by rw [ll];lia,by rw [ll];lia,?_⟩⟩
   refine vo (fun i σ G=>∃ y:Option V,σ=[some (.ref l),some (.int room),some (.int W),some (.int (((room:Int)+1) ^ i)),some (.int (W*(room:Int) ^ i)),y]/\G=H1) ⟨none,by rw [adg,adg,Vg];rfl,rfl⟩ ?_ ?_
   ·rintro i σ G hi ⟨y,rfl,rfl⟩
    refine ⟨_,rfl,_,rfl,_,_,rfl,rfl,_,_,rfl,rfl,fB tb_g% tb_g%,?_⟩
    refine ⟨_,rfl,_,rfl,_,_,rfl,rfl,fB tb_g% tb_g%,some (.int ((0:Int)+i)),?_,rfl⟩
    rw [pY,pY,<- xQ];rfl
   ·rintro σ G ⟨y,rfl,rfl⟩
    refine ⟨_,rfl,eX (.inl (.inl hl1)) ⟨_,_,rfl,rfl,_,rfl,eF (fun _=>?_) (fun h3=>?_)⟩⟩
    ·refine ⟨_,rfl,eX (.inl (.inl hl1)) ⟨_,rfl,_,_,rfl,rfl,_,rfl,eF (fun _=>q _ s1) (fun h=>absurd (decide_eq_true (by rw [ll];lia)) h)⟩⟩
    ·have h3:¬ ((ps.map fun p=>V.ref p.1).length:Int)<3:=fun z=>h3 (decide_eq_true z)
     have em:((((ps.map fun p=>V.ref p.1).length:Int)-1) / 2).toNat=(ps.length-1) / 2:=by rw [ll];lia
     rw [em]
     have fw:=few ((ps.length-1) / 2-1) tb_g%
     rw [show (ps.length-1) / 2-1+1=(ps.length-1) / 2 by lia] at fw
     refine ⟨_,rfl,zp ⟨_,rfl,_,rfl,_,_,rfl,rfl,?_⟩⟩
     dsimp only
     rw [decide_eq_true fw]
     exact q _ s1
  ·exact jm (bO 0) (jw _)
noncomputable def akK (A:Ad):Sp:=fun vs H Q _=>∃ (x:KS) (n:Nat) (t:Addr) (y:T3),vs=[.ref x.k,.ref t]/\Kp A H x/\Kh x n/\H t=some (.lst (t3L y))/\y.a=x.cm.t/\y.b=x.wn.t/\y.c=x.wi.c/\x.up.x.tt=x.cm.t/\x.dn.x.tt=x.wn.t/\∀ H',Same H H'->Q (.bl true) H'
theorem ok'52 (T:Tx K mg A):cY P w K mg base CX0 2 A.Wx A.Pk ["_law_keepsake","_law_totals"] (akK A):=by
 k_dat (T.F'52.ok,RW) "a"
 ·obtain ⟨x,n,t,y,rfl,_⟩:=h
  rfl
 ·obtain ⟨x,n,t,⟨ya,yb,yc⟩,rfl,hK,hG,ht,ea,eb,ec,eu,ed,q⟩:=h
  obtain rfl:ya=x.cm.t:=ea
  obtain rfl:yb=x.wn.t:=eb
  obtain rfl:yc=x.wi.c:=ec
  unfold t3L at ht
  refine ⟨_,(aq (aV (i:=2) RW.nd rfl (Or.inl rfl) (aC (pv 0) rfl))
   (aq (d9 (PW.pt (pw_or (Cd (Ca (bB (aio T) tb_g% rfl T.uW T.F'49.kp T.b'49 .nil bG (ao (aC (pv 0) rfl) (ao (pv 2) (ao (cI (ixG (bN hr)) (pv 1) aA (fun _ _=>rfl)) aB)))))) (pw_or1 (Cd (Ca (bB (aio T) tb_g% rfl T.uW T.F'49.kp T.b'49 .nil bG (ao (aC (pv 0) rfl) (ao (pv 2) (ao (cI (ixG (bN hr)) (pv 1) aA (fun _ _=>rfl)) aB))))))))) (aF (cC yW)) cQ)
   (aq (d9 (PW.pt (pw_or (Cd (Ca (bB (aip T) tb_g% rfl T.wI T.F'50.kp T.b'50 .nil bG (ao (aC (pv 0) rfl) (ao (pv 2) (ao (cI (ixG (bN hr)) (pv 1) aA (fun _ _=>rfl)) aB)))))) (pw_or1 (Cd (Ca (bB (aip T) tb_g% rfl T.wI T.F'50.kp T.b'50 .nil bG (ao (aC (pv 0) rfl) (ao (pv 2) (ao (cI (ixG (bN hr)) (pv 1) aA (fun _ _=>rfl)) aB))))))))) (aF (cC yW)) cQ)
   (aq (d9 (Cd (Ca (bB (ok'51 T) tb_g% rfl T.JB T.F'51.kp T.b'51 .nil bG (ao (aC (aC (pv 0) rfl) rfl) (ao (pv 2) aB))))) (aF (cC yW)) cQ)
   (aF (cC (Xi (pA JX (bF cD (by rfl) T.g8 gQ (ao (aC (aC (pv 0) rfl) rfl) aB)) (pv 2) (aX _)) (Oe (pA mJ (aC (aC (pv 0) rfl) rfl) (cI (ixG (bN hr)) (pv 1) aA (fun _ _=>rfl)) (aX _)))))))))),?_⟩
  refine ⟨_,rfl,rdF hK.o T.bQ T.zX (vP ..) ?_⟩
  refine ⟨_,rfl,rdF hK.o T.bQ T.Dv (Fd ..) ⟨_,rfl,_,rfl,dO (.inl (.inl ht)) (v:=.int x.cm.t) rfl ⟨x.cm,x.room,n,rfl,hK.cm,hG.cm,hG.r64,fun H1 s1=>⟨_,rfl,zp ?_⟩⟩⟩⟩
  have K1:=hK.same s1
  refine ⟨_,rfl,rdF K1.o T.bQ T.Dw (Fe ..) ⟨_,rfl,_,rfl,dO (.inl (.inl (s1 _ _ ht))) (v:=.int x.wn.t) rfl ⟨x.wn,x.room,n,rfl,K1.wn,hG.wn,hG.r64,fun H2 s2=>⟨_,rfl,zp ?_⟩⟩⟩⟩
  have K2:=K1.same s2
  have t2:=s2 _ _ (s1 _ _ ht)
  refine ⟨_,rfl,rdF K2.o T.bQ T.Dy (Z2 ..) ⟨_,rfl,_,rfl,dO (.inl (.inl t2)) (v:=.int x.cm.t) rfl ⟨x.up.p,x.up.x,x.room,n,by rw [eu];rfl,K2.up,hG.up,hG.few,fun H3 s3=>⟨_,rfl,zp ?_⟩⟩⟩⟩
  have K3:=K2.same s3
  have t3:=s3 _ _ t2
  refine ⟨_,rfl,rdF K3.o T.bQ T.Dz (Fg ..) ⟨_,rfl,_,rfl,dO (.inl (.inl t3)) (v:=.int x.wn.t) rfl ⟨x.dn.p,x.dn.x,x.room,n,by rw [ed];rfl,K3.dn,hG.dn,hG.few,fun H4 s4=>⟨_,rfl,zp ?_⟩⟩⟩⟩
  have K4:=K3.same s4
  have t4:=s4 _ _ t3
  obtain ⟨rows,iv,_⟩:=hG.wl
  refine ⟨_,rfl,rdF K4.o T.bQ T.uP (kZ ..) (rdF K4.wi.o T.dJ T.zR (u9 _ _ _ _) ⟨_,rfl,x.wi.l,x.room,_,_,x.wi.ps,rows,rfl,K4.wi.b,iv,hG.r2,hG.r64,hG.aa4,fun H5 s5=>⟨_,rfl,zp ?_⟩⟩)⟩
  have K5:=K4.same s5
  have t5:=s5 _ _ t4
  have dl:=hG.dl.2.1
  refine ⟨_,rfl,rdF K5.o T.bQ T.DG (Fi ..) (rdF K5.di.o T.fJ T.zU (Af _ _ _ _) (eX (.inl (.inl K5.di.l)) ⟨_,rfl,_,_,rfl,rfl,_,rfl,eF (fun _=>?_) (fun h=>absurd (decide_eq_true (by rw [bA,fZ];exact dl)) h)⟩))⟩
  refine ⟨_,rfl,rdF K5.o T.bQ T.uP (kZ ..) (rdF K5.wi.o T.dJ T.mK (jj _ _ _ _) ⟨_,rfl,dO (.inl (.inl t5)) (v:=.int x.wi.c) rfl ⟨rfl,?_⟩⟩)⟩
  rw [decide_eq_true rfl]
  exact q _ (s1.trans (s2.trans (s3.trans (s4.trans s5))))
open MK
theorem mR {b:Addr}:b∈x.all↔b=x.k\/b∈x.pts:=by unfold KS.all KS.pts;exact cU
theorem SB.all (h:SB x x'):x'.all=x.all:=by
 have:x'.k::x'.pts=x.k::x.pts:=by rw [h.k,h.pts]
 exact this
theorem Kp.live (h:Kp A H x):∀ b∈x.all,∃ C e fs,H b=some (.ins C e fs):=by
 intro b m
 unfold KS.all at m
 simp only [cU,jd,or_false] at m
 rcases m with rfl | rfl | rfl | rfl | rfl | rfl | rfl | rfl
 ·exact ⟨_,_,_,h.o⟩
 ·exact ⟨_,_,_,h.cm.o⟩
 ·exact ⟨_,_,_,h.wn.o⟩
 ·exact ⟨_,_,_,h.up.o⟩
 ·exact ⟨_,_,_,h.dn.o⟩
 ·exact ⟨_,_,_,h.wi.o⟩
 ·exact ⟨_,_,_,h.di.o⟩
 ·exact ⟨_,_,_,h.ba.o⟩
theorem Far.kp (f:Far A x.pts H H') (hy:Kp A H y) (d:∀ b∈y.all,b∉x.all):Kp A H' y :=
 (f.py y hy.pp fun b m m2=>d b (mR.mpr (.inr m)) (mR.mpr (.inr m2))).kp (f.pb _ _ hy.o fun m=>d _ (mR.mpr (.inl rfl)) (mR.mpr (.inr m))) hy.nk
theorem Kp.off {z:KS} (h:Kp A H x) (fz:∀ b∈z.all,H b=none):∀ b∈x.all,b∉z.all:=fun b m m2=>by
 obtain ⟨_,_,_,e⟩:=h.live b m
 have:=fz b m2
 rw [e] at this;cases this
theorem Kp.chg (h:Kp A H x) {L:Addr} {as:List Addr} {o:HO} (hL:H L=some (.lst (as.map V.ref))) (n:L∉x.ems):Kp A (L2.upd H L o) x:=by
 unfold KS.ems at n
 simp only [cU,dg,not_or] at n
 obtain ⟨n1,n2,n3,n4,n5,n6⟩:=n
 have kI:∀ {b C e:Addr} {fs:List (Str × V)},H b=some (.ins C e fs)->(L2.upd H L o) b=some (.ins C e fs):=fun e=>by rw [au (jg e hL (by intro z;cases z))];exact e
 have kD:∀ {b:Addr} {kv:List (Key × V)},H b=some (.dK kv)->(L2.upd H L o) b=some (.dK kv):=fun e=>by rw [au (jg e hL (by intro z;cases z))];exact e
 have kT:∀ {b:Addr} {vs:List V},H b=some (.tup vs)->(L2.upd H L o) b=some (.tup vs):=fun e=>by rw [au (jg e hL (by intro z;cases z))];exact e
 have kL:∀ {b:Addr} {vs:List V},L≠b->H b=some (.lst vs)->(L2.upd H L o) b=some (.lst vs):=fun m e=>by rw [au (aK m)];exact e
 have rl:∀ {p:Addr} {y:Rs},L≠y.a->L∉y.bs->RnX A H p y->RnX A (L2.upd H L o) p y:=fun {p y} m1 m2 R=>⟨kI R.o,kL m1 R.l.o,R.l.n,fun i b l e1 e2=>kL (fun z=>m2 (by rw [z];exact List.mem_of_getElem? e1)) (R.l.e i b l e1 e2),R.l.x⟩
 refine ⟨kI h.o,⟨kI h.cm.o,kD h.cm.d⟩,⟨kI h.wn.o,kD h.wn.d⟩,rl n1 n5 h.up,rl n2 n6 h.dn,⟨kI h.wi.o,kL n3 h.wi.b.l,fun z m=>kT (h.wi.b.t z m)⟩,⟨kI h.di.o,kL n4 h.di.l⟩,⟨kI h.ba.o,kL (fun z=>?_) h.ba.l⟩,h.nd⟩
 have e:=h.ba.l
 rw [<- z,hL] at e
 cases as with
 | nil=>cases e
 | cons a r=>cases e
theorem Kp.emL (h:Kp A H x) {c:Addr} (n:H c=none):c∉x.ems:=fun m=>by
 have rl:∀ {p:Addr} {y:Rs},RnX A H p y->c≠y.a/\c∉y.bs:=fun {p y} R=>by
  refine ⟨fun z=>?_,fun m=>?_⟩
  ·have o:=R.l.o
   rw [<- z,n] at o;cases o
  ·obtain ⟨i,hi⟩:=List.getElem?_of_mem m
   have li:i<y.ls.length:=by rw [<- R.l.n];exact (fQ.mp hi).1
   have:=R.l.e i c _ hi (gR li)
   rw [n] at this;cases this
 unfold KS.ems at m
 rcases cU.mp m with z | m
 ·exact (rl h.up).1 z
 rcases cU.mp m with z | m
 ·exact (rl h.dn).1 z
 rcases cU.mp m with z | m
 ·have o:=h.wi.b.l
  rw [<- z,n] at o;cases o
 rcases cU.mp m with z | m
 ·have o:=h.di.l
  rw [<- z,n] at o;cases o
 rcases dg.mp m with m | m
 ·exact (rl h.up).2 m
 ·exact (rl h.dn).2 m
theorem agh:∀ {l m:List Int},l.Nodup->(∀ a∈l,a∈m)->l.length<=m.length
 | [],_,_,_=>cB _
 | a::l,m,n,s=>by
  have n':=jT.mp n
  have h:=s a cZ
  have t:=agh (l:=l) (m:=m.erase a) n'.2 fun b hb=>by
   have nb:b≠a:=fun z=>n'.1 (by rw [<- z];exact hb)
   exact (List.mem_erase_of_ne nb).mpr (s b (gk _ hb))
  rw [List.length_erase_of_mem h] at t
  have:=List.length_pos_of_mem h
  rw [iY];lia
structure It where
 x:KS
 t:Addr
 y:T3
/-- what is told of the akL -/
noncomputable def Te (p:It):Prop:=p.y.a=p.x.cm.t/\p.y.b=p.x.wn.t/\p.y.c=p.x.wi.c/\p.x.up.x.tt=p.x.cm.t/\p.x.dn.x.tt=p.x.wn.t
/-- one of them: R rows so far,pw pours -/
structure Io (room:Nat) (reach span:Int) (pool:List Int) (R pw:Nat) (x:KS):Prop where
 sh:x.room=room/\x.reach=reach/\x.span=span
 kh:∃ n,n<=R*2 ^ pw/\Kh x n
 nd:x.di.C.Nodup
 pl:∀ c∈x.di.C,c∈pool
theorem Io.mono {R' pw':Nat} {ts:List Int} (h:Io room reach span pool R pw x) (r:R<=R') (w:pw<=pw'):Io room reach span (pool++ts) R' pw' x:=by
 obtain ⟨n,hn,k⟩:=h.kh
 exact ⟨h.sh,⟨n,iC hn (Uv r (xJ (by decide) w)),k⟩,h.nd,fun c m=>CV _ (h.pl c m)⟩
theorem Io.row {r:R3} (h:Io room reach span pool R pw x) (s:SR r x x') (ok:r.ok) (pl:pool.length<=R) (h7:R<700) (hb:R*2 ^ pw<60000):Io room reach span (pool++[r.th]) (R+1) pw x':=by
 obtain ⟨n,hn,k⟩:=h.kh
 have sb:=s.sb
 have cl:=agh h.nd h.pl
 have p1:=Nat.pow_pos (n:=pw) (show 0<2 by decide)
 refine ⟨⟨sb.room.trans h.sh.1,sb.reach.trans h.sh.2.1,sb.span.trans h.sh.2.2⟩,⟨n+1,by rw [Nat.add_mul,acJ];lia,k.row tb_g% ok (fun _=>by have:=(afY x.di.C r.th).2;lia) s⟩,?_,?_⟩
 ·unfold SR at s
  split at s
  ·rw [s.di.2.1];exact ahE h.nd
  ·split at s
   ·rw [s.di];exact h.nd
   ·rw [s.di];exact h.nd
 ·intro c m
  unfold SR at s
  split at s
  ·rw [s.di.2.1] at m
   rcases agb.mp m with z | z
   ·exact CV _ (h.pl c z)
   ·rw [z];exact lD _ cZ
  ·split at s
   ·rw [s.di] at m;exact CV _ (h.pl c m)
   ·rw [s.di] at m;exact CV _ (h.pl c m)
theorem Te.row {p:It} {r:R3} (h:Te p) (s:SR r p.x x'):Te ⟨x',t,abb p.y r⟩:=by
 obtain ⟨a,b,c,u,d⟩:=h
 unfold SR at s
 unfold Te abb
 split at s
 ·rename_i e
  obtain ⟨_,_,e1,_⟩:=s.cm
  rw [if_pos e]
  refine ⟨?_,?_,?_,?_,?_⟩
  ·show p.y.a+r.w=x'.cm.t
   rw [e1,a]
  ·show p.y.b=x'.wn.t
   rw [s.wn,b]
  ·show p.y.c+1=x'.wi.c
   rw [s.wi.1,c]
  ·show x'.up.x.tt=x'.cm.t
   rw [s.up.tt,e1,u]
  ·show x'.dn.x.tt=x'.wn.t
   rw [s.dn,s.wn,d]
 ·rename_i e
  split at s
  ·rename_i e2
   obtain ⟨_,_,e1,_⟩:=s.wn
   rw [if_neg e,if_pos e2]
   refine ⟨?_,?_,?_,?_,?_⟩
   ·show p.y.a=x'.cm.t
    rw [s.cm,a]
   ·show p.y.b+r.w=x'.wn.t
    rw [e1,b]
   ·show p.y.c+1=x'.wi.c
    rw [s.wi.1,c]
   ·show x'.up.x.tt=x'.cm.t
    rw [s.up,s.cm,u]
   ·show x'.dn.x.tt=x'.wn.t
    rw [s.dn.tt,e1,d]
  ·rename_i e2
   rw [if_neg e,if_neg e2]
   refine ⟨?_,?_,?_,?_,?_⟩
   ·show p.y.a=x'.cm.t
    rw [s.cm,a]
   ·show p.y.b=x'.wn.t
    rw [s.wn,b]
   ·show p.y.c+r.w=x'.wi.c
    rw [s.wi.1,c]
   ·show x'.up.x.tt=x'.cm.t
    rw [s.up,s.cm,u]
   ·show x'.dn.x.tt=x'.wn.t
    rw [s.dn,s.wn,d]
noncomputable def Jm (a b:T3):T3:=⟨a.a+b.a,a.b+b.b,a.c+b.c⟩
theorem Te.aeM {p q:It} {z:KS} (h:Te p) (g:Te q) (k:KP p.x q.x z):Te ⟨z,t,Jm p.y q.y⟩:=by
 obtain ⟨a,b,c,u,d⟩:=h
 obtain ⟨a',b',c',u',d'⟩:=g
 obtain ⟨_,_,e1,_⟩:=k.cm
 obtain ⟨_,_,e2,_⟩:=k.wn
 refine ⟨?_,?_,?_,?_,?_⟩
 ·show p.y.a+q.y.a=z.cm.t
  rw [e1,a,a']
 ·show p.y.b+q.y.b=z.wn.t
  rw [e2,b,b']
 ·show p.y.c+q.y.c=z.wi.c
  rw [k.wi.1,c,c']
 ·show z.up.x.tt=z.cm.t
  rw [k.up.tt,e1,u,u']
 ·show z.dn.x.tt=z.wn.t
  rw [k.dn.tt,e2,d,d']
/-- they can be poured,and what comes of it -/
theorem Io.alk (h:Io room reach span pool R pw x) (g:Io room reach span pool R pw y) (pl:pool.length<=R) (h7:R<=700) (hb:R*2 ^ (pw+1)<=60000) :
  ∃ n m,Alk x y n m/\∀ z,KP x y z->Io room reach span pool R (pw+1) z:=by
 obtain ⟨n,hn,k⟩:=h.kh
 obtain ⟨m,hm,k'⟩:=g.kh
 have e:R*2 ^ (pw+1)=R*2 ^ pw+R*2 ^ pw:=by rw [pU,xM (2 ^ pw) 2,Nat.two_mul,qX]
 have hc:(un x.di.C y.di.C).length<=700:=iC (agh (af8 _ _) fun c m=>(Jk.mp m).elim (h.pl c) (g.pl c)) (iC pl h7)
 have a:Alk x y n m:=⟨g.sh.1.trans h.sh.1.symm,g.sh.2.1.trans h.sh.2.1.symm,g.sh.2.2.trans h.sh.2.2.symm,k,k',by lia,h.nd,g.nd,hc⟩
 refine ⟨n,m,a,fun z p=>⟨⟨p.room.trans h.sh.1,p.reach.trans h.sh.2.1,p.span.trans h.sh.2.2⟩,⟨n+m,by lia,p.kh a⟩,by rw [p.di.2.1];exact af8 _ _,fun c m=>?_⟩⟩
 rw [p.di.2.1] at m
 exact (Jk.mp m).elim (h.pl c) (g.pl c)
/-- all of them: the akM list L,the totals' list M -/
structure Iv (A:Ad) (H0 G:Hp) (L M:Addr) (room:Nat) (reach span:Int) (pool:List Int) (R pw:Nat) (ps:List It):Prop where
 s:Same H0 G
 fL:H0 L=none
 fM:H0 M=none
 nLM:L≠M
 l:G L=some (.lst ((ps.map fun p=>p.x.k).map V.ref))
 m:G M=some (.lst ((ps.map fun p=>p.t).map V.ref))
 kp:∀ p∈ps,Kp A G p.x
 fr:∀ p∈ps,∀ b∈p.x.all,H0 b=none
 dj:ps.Pairwise fun p q=>∀ b∈p.x.all,b∉q.x.all
 em:∀ p∈ps,L∉p.x.ems/\M∉p.x.ems
 tt:∀ p∈ps,G p.t=some (.lst (t3L p.y))
 ok:∀ p∈ps,Io room reach span pool R pw p.x
 pl:pool.length<=R
section
variable {H0:Hp} {L M:Addr} {as bs:List It} {p:It}
theorem Iv.same {ps:List It} (h:Iv A H0 G L M room reach span pool R pw ps) (s:Same G G'):Iv A H0 G' L M room reach span pool R pw ps :=
 ⟨h.s.trans s,h.fL,h.fM,h.nLM,s _ _ h.l,s _ _ h.m,fun p m=>(h.kp p m).same s,h.fr,h.dj,h.em,fun p m=>s _ _ (h.tt p m),h.ok,h.pl⟩
theorem YD {M:Addr} {as:List Addr} {y:T3} (hM:G M=some (.lst (as.map V.ref))) (ht:G t=some (.lst (t3L y))):t≠M:=fun z=>by
 rw [z,hM] at ht
 cases as with
 | nil=>cases ht
 | cons a r=>cases ht
theorem iz {as bs:List α} {p q:α} (h:q∈as++p::bs):q=p\/q∈as\/q∈bs:=by
 rcases dg.mp h with z | z
 ·exact .inr (.inl z)
 ·rcases cU.mp z with z | z
  ·exact .inl z
  ·exact .inr (.inr z)
theorem gC {as bs:List α} {p q:α} (h:q∈as\/q∈bs):q∈as++p::bs:=h.elim (CV _) fun z=>lD _ (gk _ z)
theorem mid {as bs:List α} {p:α}:p∈as++p::bs:=lD _ cZ
theorem Iv.apart (h:Iv A H0 G L M room reach span pool R pw (as++p::bs)) {q:It} (m:q∈as\/q∈bs):∀ b∈q.x.all,b∉p.x.all:=by
 obtain ⟨_,d2,d3⟩:=lE.mp h.dj
 rcases m with m | m
 ·exact d3 q m p cZ
 ·exact fun b m1 m2=>(iV.mp d2).1 q m b m2 m1
/-- another one in its place,apart from the others -/
theorem YF {as bs:List It} {p p':It} (h:(as++p::bs).Pairwise fun p q=>∀ b∈p.x.all,b∉q.x.all) (n:∀ q,q∈as\/q∈bs->∀ b∈q.x.all,b∉p'.x.all):(as++p'::bs).Pairwise fun p q=>∀ b∈p.x.all,b∉q.x.all:=by
 obtain ⟨d1,d2,d3⟩:=lE.mp h
 refine lE.mpr ⟨d1,iV.mpr ⟨fun q m b m1 m2=>n q (.inr m) b m2 m1,(iV.mp d2).2⟩,fun a ma q mq=>?_⟩
 rcases cU.mp mq with z | z
 ·rw [z];exact n a (.inl ma)
 ·exact d3 a ma q (gk _ z)
/-- a row -/
theorem Iv.done (h:Iv A H0 G L M room reach span pool R pw (as++p::bs)) {r:R3} (k1:Kp A G' x') (s1:SR r p.x x') (f1:Far A p.x.pts G G') (e1:Em G p.x x') (ok:r.ok) (h7:R<700) (hb:R*2 ^ pw<60000) :
  Iv A H0 G' L M room reach span (pool++[r.th]) (R+1) pw (as++⟨x',p.t,p.y⟩::bs):=by
 have hx:=h.kp p mid
 have sb:=s1.sb
 have keep:∀ {b:Addr} {vs:List V},G b=some (.lst vs)->G' b=some (.lst vs):=fun {b vs} e=>f1.pb _ _ e fun m=>by
  obtain ⟨C,d,fs,e2⟩:=hx.live b (mR.mpr (.inr m))
  rw [e] at e2;cases e2
 refine ⟨fun b o e=>f1.pb _ _ (h.s b o e) fun m=>?_,h.fL,h.fM,h.nLM,?_,?_,fun q m=>?_,fun q m=>?_,?_,fun q m=>?_,fun q m=>?_,fun q m=>?_,?_⟩
 ·have:=h.fr p mid b (mR.mpr (.inr m))
  rw [e] at this;cases this
 ·have:=keep h.l
  rw [this]
  simp only [dN,f9,sb.k]
 ·have:=keep h.m
  rw [this]
  simp only [dN,f9]
 ·walk_at "m"
  ·exact k1
  ·exact f1.kp (h.kp q (gC m)) (h.apart m)
 ·walk_at "m"
  ·show ∀ b∈x'.all,H0 b=none
   rw [sb.all];exact h.fr p mid
  ·exact h.fr q (gC m)
 ·refine YF h.dj fun q m=>?_
  show ∀ b∈q.x.all,b∉x'.all
  rw [sb.all];exact h.apart m
 ·walk_at "m"
  ·refine ⟨fun z=>?_,fun z=>?_⟩
   ·rcases e1 L z with y | y
    ·exact (h.em p mid).1 y
    ·rw [h.l] at y;cases y
   ·rcases e1 M z with y | y
    ·exact (h.em p mid).2 y
    ·rw [h.m] at y;cases y
  ·exact h.em q (gC m)
 ·walk_at "m"
  ·exact keep (h.tt p mid)
  ·exact keep (h.tt q (gC m))
 ·walk_at "m"
  ·exact (h.ok p mid).row s1 ok h.pl h7 hb
  ·exact (h.ok q (gC m)).mono (m9 _) (bV _)
 ·rw [dh]
  exact Nat.succ_le_succ h.pl
/-- other akL -/
theorem Iv.tot (h:Iv A H0 G L M room reach span pool R pw (as++p::bs)) {y:T3} (ht:G t=some (.lst (t3L y))) :
  Iv A H0 (upd G M (.lst (((as++(⟨p.x,t,y⟩:It)::bs).map fun p=>p.t).map V.ref))) L M room reach span pool R pw (as++⟨p.x,t,y⟩::bs):=by
 have kt:∀ {t:Addr} {y:T3},G t=some (.lst (t3L y))->(upd G M (.lst (((as++(⟨p.x,t,y⟩:It)::bs).map fun p=>p.t).map V.ref))) t=some (.lst (t3L y)):=fun {t y} e=>by rw [au (YD h.m e)];exact e
 refine ⟨fun b o e=>by rw [au (ak e h.fM)];exact h.s b o e,h.fL,h.fM,h.nLM,?_,aj,fun q m=>?_,fun q m=>?_,?_,fun q m=>?_,fun q m=>?_,fun q m=>?_,h.pl⟩
 ·rw [au h.nLM,h.l]
  simp only [dN,f9]
 ·walk_at "m"
  ·exact (h.kp p mid).chg h.m (h.em p mid).2
  ·exact (h.kp q (gC m)).chg h.m (h.em q (gC m)).2
 ·walk_at "m"
  ·exact h.fr p mid
  ·exact h.fr q (gC m)
 ·exact YF h.dj fun q m=>h.apart m
 ·walk_at "m"
  ·exact h.em p mid
  ·exact h.em q (gC m)
 ·walk_at "m"
  ·rw [au (YD h.m ht)];exact ht
  ·have e:=h.tt q (gC m)
   rw [au (YD h.m e)];exact e
 ·walk_at "m"
  ·exact h.ok p mid
  ·exact h.ok q (gC m)
/-- a new keepsake in its place -/
theorem Iv.new (h:Iv A H0 G L M room reach span pool R pw (as++p::bs)) {z:KS} (s:Same G G') (kz:Kp A G' z) (fz:∀ b∈z.all,G b=none) (ez:∀ b∈z.ems,G b=none) (oz:Io room reach span pool R (pw+1) z) :
  Iv A H0 (upd G' L (.lst (((as++(⟨z,p.t,p.y⟩:It)::bs).map fun p=>p.x.k).map V.ref))) L M room reach span pool R (pw+1) (as++⟨z,p.t,p.y⟩::bs):=by
 have h':=h.same s
 have zl:L∉z.ems:=fun m=>by have:=ez L m;rw [h.l] at this;cases this
 have zm:M∉z.ems:=fun m=>by have:=ez M m;rw [h.m] at this;cases this
 refine ⟨fun b o e=>by rw [au (ak e h.fL)];exact h'.s b o e,h.fL,h.fM,h.nLM,aj,?_,fun q m=>?_,fun q m=>?_,?_,fun q m=>?_,fun q m=>?_,fun q m=>?_,h.pl⟩
 ·rw [au (aK h.nLM),h'.m]
  simp only [dN,f9]
 ·walk_at "m"
  ·exact kz.chg h'.l zl
  ·exact (h'.kp q (gC m)).chg h'.l (h.em q (gC m)).1
 ·walk_at "m"
  ·exact fun b m=>h.s.free (fz b m)
  ·exact h.fr q (gC m)
 ·exact YF h.dj fun q m=>(h.kp q (gC m)).off fz
 ·walk_at "m"
  ·exact ⟨zl,zm⟩
  ·exact h.em q (gC m)
 ·walk_at "m"
  ·rw [au (YD h'.l (h'.tt p mid))];exact h'.tt p mid
  ·have e:=h'.tt q (gC m)
   rw [au (YD h'.l e)];exact e
 ·walk_at "m"
  ·exact oz
  ·have:=(h.ok q (gC m)).mono (ts:=[]) (bV R) (m9 pw)
   rw [xg] at this;exact this
end
open MK
theorem sq {t u:TS} {D:Ends} (h:∀ R:St->Hp->Prop,(∀ σ H,u D σ H->R σ H)->t { D with nx:=R } σ H):tSeq t u D σ H:=h (u D) fun _ _ z=>z
theorem K7 (hs:∀ vs H (Q Q':VK),(∀ y H,Q y H->Q' y H)->sp vs H Q E->sp vs H Q' E) (ma:Dm ta):nQ (aeo sp dvs E ta):=fun σ H _ _ hq h=>ma σ H _ _ (fun _ _ h1=>hs _ _ _ _ hq h1) h
theorem t_and {c1 c2:TT} {P1 P2:Prop} [Decidable P1] [Decidable P2] (h1:∀ k:Bool->Hp->Prop,k (decide P1) H->c1 σ H k) (h2:∀ k:Bool->Hp->Prop,k (decide P2) H->c2 σ H k) (k:Bool->Hp->Prop) (hk:k (decide (P1/\P2)) H):tAnd c1 c2 σ H k:=by
 refine h1 _ ?_
 by_cases a:P1
 ·rw [if_pos (decide_eq_true a)]
  refine h2 _ ?_
  have e:decide (P1/\P2)=decide P2:=by by_cases b:P2 <;> simp [a,b]
  rw [<- e];exact hk
 ·rw [if_neg (by rw [decide_eq_false a];decide)]
  rw [decide_eq_false (fun z=>a z.1)] at hk
  exact hk
theorem agi {c1 c2:TT} {t u:TS} {D:Ends} {P1 P2:Prop} [Decidable P1] [Decidable P2] (h1:∀ k:Bool->Hp->Prop,k (decide P1) H->c1 σ H k) (h2:∀ k:Bool->Hp->Prop,k (decide P2) H->c2 σ H k) (ht:P1->P2->t D σ H) (hu:¬ (P1/\P2)->u D σ H):tIfS (tAnd c1 c2) t u D σ H:=by
 refine h1 _ ?_
 by_cases a:P1
 ·rw [if_pos (decide_eq_true a)]
  refine h2 _ ?_
  by_cases b:P2
  ·rw [if_pos (decide_eq_true b)];exact ht a b
  ·rw [if_neg (by rw [decide_eq_false b];decide)];exact hu fun z=>b z.2
 ·rw [if_neg (by rw [decide_eq_false a];decide)]
  show (if false=true then _ else _)
  rw [if_neg (by decide)];exact hu fun z=>a z.1
theorem abd {C:Addr} (hs:∀ vs H (Q Q':VK),(∀ y H,Q y H->Q' y H)->sp vs H Q E->sp vs H Q' E) (ma:Dm ta):nQ (aep C sp dvs E ta):=fun σ H _ _ hq h =>
 ma σ H _ _ (fun _ _ h1 x dx a b c=>hs _ _ _ _ (fun _ _ z=>⟨z.1,hq _ _ z.2⟩) (h1 x dx a b c)) h
theorem ahI :∀ vs H (Q Q':VK),(∀ y H,Q y H->Q' y H)->Qc A vs H Q E->Qc A vs H Q' E:=fun _ _ _ _ hq ⟨k,dk,r,re,sp,e,o,a1,a2,a3,z⟩=>⟨k,dk,r,re,sp,e,o,a1,a2,a3,fun x H' b1 b2 b3 b4 b5 b6=>hq _ _ (z x H' b1 b2 b3 b4 b5 b6)⟩
/-- the first ones -/
theorem Iv.start {H2 H3 H4:Hp} {g:Addr} {xs:List KS} {ts:List Addr} (r2:2<=room) (r64:room<=64) (ev:room % 2=0) (kr:1<=reach) (s2:Same H H2) (s3:Same H2 H3) (s4:Same H3 H4)
  (hf:H2 f=none) (hg:H3 g=none) (lx:H3 f=some (.lst (xs.map fun x=>V.ref x.k))) (lt:H4 g=some (.lst (ts.map V.ref))) (e:xs.length=ts.length)
  (ex:∀ x∈xs,Kp A H3 x/\Eqp x (K0 room reach span)/\(∀ b∈x.all,H2 b=none)/\f∉x.ems) (dj:xs.Pairwise fun x y=>∀ b∈x.all,b∉y.all) (et:∀ t∈ts,H4 t=some (.lst (t3L ⟨0,0,0⟩))) :
  ∃ ps:List It,Iv A H H4 f g room reach span [] 0 0 ps/\(∀ p∈ps,Te p)/\ps.length=xs.length:=by
 have m1:((xs.zip ts).map fun z=>(⟨z.1,z.2,⟨0,0,0⟩⟩:It)).map (fun p=>p.x)=xs:=by
  rw [mY]
  show (xs.zip ts).map Prod.fst=_
  exact List.map_fst_zip tb_g%
 have m2:((xs.zip ts).map fun z=>(⟨z.1,z.2,⟨0,0,0⟩⟩:It)).map (fun p=>p.t)=ts:=by
  rw [mY]
  show (xs.zip ts).map adI=_
  exact ab9 tb_g%
 have m3:∀ p∈(xs.zip ts).map fun z=>(⟨z.1,z.2,⟨0,0,0⟩⟩:It),p.x∈xs/\p.t∈ts/\p.y=⟨0,0,0⟩:=fun p m=>by
  obtain ⟨z,mz,rfl⟩:=jV.mp m
  exact ⟨(Gd mz).1,(Gd mz).2,rfl⟩
 have ln:((xs.zip ts).map fun z=>(⟨z.1,z.2,⟨0,0,0⟩⟩:It)).length=xs.length:=by rw [bA,List.length_zip];lia
 generalize (xs.zip ts).map (fun z=>(⟨z.1,z.2,⟨0,0,0⟩⟩:It))=ps at m1 m2 m3 ln
 have lf:ps.map (fun p=>p.x.k)=xs.map (·.k):=by rw [<- m1,mY];rfl
 refine ⟨ps,⟨s2.trans (s3.trans s4),s2.free hf,(s2.trans s3).free hg,fun z=>?_,?_,?_,fun p m=>(ex p.x (m3 p m).1).1.same s4,fun p m b mb=>s2.free ((ex p.x (m3 p m).1).2.2.1 b mb),?_,fun p m=>⟨(ex p.x (m3 p m).1).2.2.2,(ex p.x (m3 p m).1).1.emL hg⟩,fun p m=>?_,fun p m=>?_,bV _⟩,fun p m=>?_,ln⟩
 ·rw [z,hg] at lx;cases lx
 ·rw [s4 _ _ lx,lf,mY];rfl
 ·rw [lt,m2]
 ·exact Ga.mp (by rw [m1];exact dj)
 ·rw [(m3 p m).2.2];exact et p.t (m3 p m).2.1
 ·have e:=(ex p.x (m3 p m).1).2.1
  refine ⟨⟨e.room,e.reach,e.span⟩,⟨0,cB _,(kh0 reach span r2 r64 ev kr).eq e⟩,?_,?_⟩
  ·rw [e.di.C];exact List.Pairwise.nil
  ·rw [e.di.C];exact fun c m=>nomatch m
 ·have e:=(ex p.x (m3 p m).1).2.1
  unfold Te
  rw [(m3 p m).2.2,e.cm.t,e.wn.t,e.wi.c,e.up.tt,e.dn.tt]
  exact ⟨rfl,rfl,rfl,rfl,rfl⟩
open MK
theorem ok'53 (T:Tx K mg A):cY P w K mg base CX0 9 A.Z9 A.afz ["_law_script"] (afO K):=by
 k_dat (T.F'53.ok,jz) "a"
 ·obtain ⟨a,ns,rfl,_⟩:=h
  rfl
 ·obtain ⟨a,ns,rfl,hS,hlen,q⟩:=h
  refine ⟨_,(aq (aV (i:=1) jz.nd rfl (Or.inr rfl) (bB (ok'38 T) tb_g% rfl T.Pz T.F'38.kp T.b'38 .nil bG (ao (bF (vJ rfl) (by rfl) T.ZP Nf (ao (Hg Om (pv 0) Oj (vp aA)) aB)) aB)))
   (aq (aV (i:=2) jz.nd rfl (Or.inl rfl) (aJ bW aA (aJ dF (bF (vJ rfl) (by rfl) T.ZP Nf (ao (Hg Om (pv 0) (vp (aee Xo aA)) Oj) aB)) aA)))
   (aq (kj (i:=3) (cl:=[("_law_shape",s.heap.objs.size+1)]) (N:=["_law_k","_law_shape"]) (caps:=[1]) (tt:=_) (te:=(aep _ _ _ _ (Dh (tOp (vR K) _ _) (Dh (tOp (vR K) _ _) (Dh (tOp (vR K) _ _) aen))))) jz.nd rfl (Or.inl rfl) rfl (by with_unfolding_all rfl) tb_g% rfl tb_g% ⟨rfl,trivial⟩ (lX (by with_unfolding_all rfl)) tb_g% rfl rfl rfl (dZ.at (k:=1) (show dZ _ _ _ _ 1 [1] from ⟨⟨"_law_shape",_,rfl,rfl,.inl rfl,.inl rfl,rfl⟩,trivial⟩)) (jC rfl T.pI (ao (pv 2) aB)) (fun _ _ _ _=>rJ) (fun _ _ _ _=>(iH T.ah3 (aii T) (by exact hr.mono (by decide)) rfl T.Ip T.b'32 .nil bG (ao (cI (ixG (by exact bN hr)) (pv 1) aA (fun _ _=>rfl)) (ao (cI (ixG (by exact bN hr)) (pv 1) aA (fun _ _=>rfl)) (ao (cI (ixG (by exact bN hr)) (pv 1) aA (fun _ _=>rfl)) aB))))))
   (aq (aV (i:=4) jz.nd rfl (Or.inr rfl) (zy (cl:=[]) (N:=["_law_k"]) (caps:=[]) (tt:=_) (te:=_) rfl (by with_unfolding_all rfl) tb_g% rfl tb_g% trivial (lX (by with_unfolding_all rfl)) tb_g% rfl rfl rfl (dZ.at (k:=1) (show dZ _ _ _ _ 1 [] from trivial)) (jC rfl T.pI (ao (pv 2) aB)) (fun _ _ _ _=>rJ) (fun _ _ _ _=>(gG (ao aA (ao aA (ao aA aB)))))))
   (aq (aV (i:=5) jz.nd rfl (Or.inl rfl) aA)
   (aq (aV (i:=6) jz.nd rfl (Or.inl rfl) aA)
   (aq (rE oX rfl (pq (pv 0)) (gM (i:=7) jz.nd rfl (Or.inr rfl)) (aq (aV (i:=8) jz.nd rfl (Or.inr rfl) (aJ dF (bB (Sh T) tb_g% rfl T.zY T.aaU.kp T.afH .nil bG (ao (pv 7) (ao aA (ao aA aB)))) (pv 2)))
   (aq (aV (i:=9) jz.nd rfl (Or.inr rfl) (aJ dF (bB (Sh T) tb_g% rfl T.zY T.aaU.kp T.afH .nil bG (ao (pv 7) (ao aA (ao aA aB)))) (pv 2)))
   (aq (d9 (PW.pt (pw_and (aR mJ (aJ dF (pv 7) aA) aA (aX _)) (pw_and1 (aR uH (pv 5) aA (aX _))))) (aq (Xk (i:=5) jz.nd rfl (Or.inl rfl) aA GR)
   (aq (rD (bB (ok'47 T) tb_g% rfl T.afJ T.F'47.kp T.b'47 .nil uL (ao (cI (ixG (bN hr)) (pv 3) (pv 8) (fun _ _=>rfl)) (ao (cI (ixG (bN hr)) (pv 3) (pv 9) (fun _ _=>rfl)) aB))) (rC (pv 3) (pv 8) (setG (bN hr))))
   (aF (rD (zy (cl:=[("_law_totals",s.heap.objs.size+1+1),("_law_other",s.heap.objs.size+1+4),("_law_at",s.heap.objs.size+1+3)]) (N:=["_law_k","_law_totals","_law_at","_law_other"]) (caps:=[4,8,9]) (tt:=_) (te:=(tOp _ (tOp (vR K) (tOp (vR K) _ _) _) (tOp (vR K) (tOp (vR K) _ _) _))) rfl (by with_unfolding_all rfl) tb_g% rfl tb_g% ⟨rfl,⟨rfl,⟨rfl,trivial⟩⟩⟩ (lX (by with_unfolding_all rfl)) tb_g% rfl rfl rfl (dZ.at (k:=1) (show dZ _ _ _ _ 1 [4,8,9] from ⟨⟨"_law_totals",_,rfl,rfl,.inl rfl,.inl rfl,rfl⟩,⟨⟨"_law_at",_,rfl,rfl,.inl rfl,.inl rfl,rfl⟩,⟨⟨"_law_other",_,rfl,rfl,.inl rfl,.inl rfl,rfl⟩,trivial⟩⟩⟩)) (jC rfl T.pI (ao aA aB)) (fun _ _ _ _=>rJ) (fun _ _ _ _=>(aJ bW (cI (ixG (by exact bN hr)) (cI (ixG (by exact bN hr)) (pv 1) (pv 2) (fun _ _=>rfl)) (pv 0) (fun _ _=>rfl)) (cI (ixG (by exact bN hr)) (cI (ixG (by exact bN hr)) (pv 1) (pv 3) (fun _ _=>rfl)) (pv 0) (fun _ _=>rfl))))) (rC (pv 4) (pv 8) (setG (bN hr))))))) (aq (aV (i:=10) jz.nd rfl (Or.inl rfl) (gG (ao (bB (aij T) tb_g% rfl T.IV T.F'37.kp T.b'37 .nil bG (ao (aJ gw (pv 7) aA) aB)) aB)))
   (aq (d9 (PW.pt (pw_and (aR mJ (aJ dF (pv 7) aA) aA (aX _)) (pw_and (aR mJ (aJ dF (aJ gw (pv 7) aA) aA) aA (aX _)) (pw_and1 (aR uH (pv 6) aA (aX _)))))) (aq (Xk (i:=6) jz.nd rfl (Or.inl rfl) aA GR)
   (aF (kj (i:=10) (cl:=[("_law_cell",s.heap.objs.size+1+2)]) (N:=["_law_j","_law_cell"]) (caps:=[7]) (tt:=_) (te:=_) jz.nd rfl (Or.inl rfl) rfl (by with_unfolding_all rfl) tb_g% rfl tb_g% ⟨rfl,trivial⟩ (lX (by with_unfolding_all rfl)) tb_g% rfl rfl rfl (dZ.at (k:=1) (show dZ _ _ _ _ 1 [7] from ⟨⟨"_law_cell",_,rfl,rfl,.inl rfl,.inl rfl,rfl⟩,trivial⟩)) (jC rfl T.pI (ao (aJ bW aA (aJ dF (aJ gw (pv 7) aA) aA)) aB)) (fun _ _ _ _=>rJ) (fun _ _ _ _=>(bB (aij T) (by exact hr.mono (by decide)) rfl T.IV T.F'37.kp T.b'37 .nil bG (ao (aJ jc aA (bB (Sh T) (by exact hr.mono (by decide)) rfl T.zY T.aaU.kp T.afH .nil bG (ao (aJ bW (pv 1) (pv 0)) (ao aA (ao aA aB))))) aB)))))) cQ)
   (aF (rE oX rfl (pq (pv 10)) (gM (i:=11) jz.nd rfl (Or.inl rfl)) (aq (cR (bB (ok'39 T) tb_g% rfl T.afI T.F'39.kp T.b'39 .nil bG (ao (cI (ixG (bN hr)) (pv 3) (pv 8) (fun _ _=>rfl)) (ao (pv 11) aB))))
   (aF (rD (bB (ok'48 T) tb_g% rfl T.Jz T.F'48.kp T.b'48 .nil bG (ao (cI (ixG (bN hr)) (pv 4) (pv 8) (fun _ _=>rfl)) (ao (pv 11) aB))) (rC (pv 4) (pv 8) (setG (bN hr)))))))))))
   (aF (d9 (Cd (Ca (bB (ok'52 T) tb_g% rfl T.ahc T.F'52.kp T.b'52 .nil bG (ao (cI (ixG (bN hr)) (pv 3) (pv 8) (fun _ _=>rfl)) (ao (cI (ixG (bN hr)) (pv 4) (pv 8) (fun _ _=>rfl)) aB))))) (aF (cC yW)) cQ))))))
   (aF (cC yW))))))))),?_⟩
  obtain ⟨cs,ecs,lcs,_⟩:=RK ns none (some 1)
  refine ⟨_,rfl,_,rfl,a,_,rfl,hS,fun z hz=>?_⟩
  rw [ecs]
  refine ⟨z,_,rfl,.inl (.inl aj),?_⟩
  have s0:=Same.new (o:=.lst (cs.map V.int)) hz
  generalize upd H z (.lst (cs.map V.int))=H0 at s0 ⊢
  refine ⟨_,rfl,fun t room reach span H1 r2 r64 ev kr ht s1=>?_⟩
  have s01:=s0.trans s1
  obtain ⟨c2,ec2,_,_⟩:=RK ns (some (-1)) none
  refine ⟨_,rfl,_,rfl,_,rfl,a,_,rfl,s01.seq hS,fun z2 hz2=>?_⟩
  rw [ec2]
  refine ⟨z2,_,rfl,.inl (.inl aj),?_⟩
  have s2:=Same.new (o:=.lst (c2.map V.int)) hz2
  have s02:=s01.trans s2
  have ht2:=s2 _ _ ht
  generalize upd H1 z2 (.lst (c2.map V.int))=H2 at s02 ht2 ⊢
  refine ⟨_,_,rfl,rfl,(by show (0:Int)<8;decide),_,_,rfl,rfl,?_⟩
  have m1:1<=1+c2.sum % 8/\1+c2.sum % 8<=8:=by lia
  dsimp only
  generalize 1+c2.sum % 8=many at m1 ⊢
  clear s0 s1 s01 s2 ht
  refine ⟨_,rfl,_,rfl,by lia,by lia,fun f hf=>?_⟩
  refine rK (fun i ys G=>∃ xs:List KS,ys=(xs.map fun x=>V.ref x.k)/\xs.length=i/\Same H2 G/\G f=some (.lst ys)/\(∀ x∈xs,Kp A G x/\Eqp x (K0 room reach span)/\(∀ b∈x.all,H2 b=none)/\f∉x.ems)/\xs.Pairwise fun x y=>∀ b∈x.all,b∉y.all)
   ⟨[],rfl,rfl,Same.new hf,aj,(fun _ m=>nomatch m),List.Pairwise.nil⟩ ?_ ?_ ?_ ?_
  ·rintro i ys G hi ⟨xs,rfl,rfl,s3,hl,_⟩
   exact ⟨hl,cL (by rw [bA];lia)⟩
  ·rintro i ys G hi ⟨xs,rfl,rfl,s3,hl,ex,dj⟩
   have ht3:=s3 _ _ ht2
   refine ⟨_,rfl,eZ (.inl (.inl ht3)) (v:=.int room) rfl ⟨_,rfl,eZ (.inl (.inl ht3)) (v:=.int reach) rfl ⟨_,rfl,eZ (.inl (.inl ht3)) (v:=.int span) rfl ?_⟩⟩⟩
   refine fun k dk n1 n2 n3=>⟨k,dk,room,reach,span,rfl,aj,r2,r64,ev,fun x G1 kx ex1 ek hpts hems bt=>⟨rfl,?_⟩⟩
   have up2:Same G (upd (upd G dk (.own k)) k (.ins A.bw dk [])):=fun b o e=>by rw [au (ak e n1),au (ak e n2)];exact e
   have s4:Same G G1:=fun b o e=>bt b o (up2 b o e) (ak e n1)
   have fx:∀ b∈x.all,G b=none:=fun b m=>by
    rcases mR.mp m with z | z
    ·rw [z,ek];exact n1
    ·exact up2.free (hpts b z)
   have hl4:=s4 _ _ hl
   have nfx:f∉x.ems:=fun m=>by have:=up2.free (hems f m);rw [hl] at this;cases this
   have hl5:G1 f=some (.lst ((xs.map (·.k)).map V.ref)):=by rw [hl4,mY];rfl
   rw [<- ek]
   refine ⟨hl4,xs++[x],by rw [dN];rfl,by rw [dh];rfl,fun b o e=>by rw [au (ak e hf)];exact s4 _ _ (s3 b o e),aj,fun y m=>?_,?_⟩
   ·rcases dg.mp m with m | m
    ·obtain ⟨y1,y2,y3,y4⟩:=ex y m
     exact ⟨(y1.same s4).chg hl5 y4,y2,y3,y4⟩
    ·rw [d8.mp m]
     exact ⟨kx.chg hl5 nfx,ex1,fun b m=>s3.free (fx b m),nfx⟩
   ·exact lE.mpr ⟨dj,Tw _ _,fun y m z mz=>by rw [d8.mp mz];exact (ex y m).1.off fx⟩
  rotate_left
  ·exact abd ahI (gq (jm (bO 1) (jw _)) (gq (jm (bO 1) (jw _)) (gq (jm (bO 1) (jw _)) qI)))
  rintro ys H3 ⟨xs,rfl,hlx,s3,hl3,ex,djx⟩
  refine ⟨_,rfl,_,rfl,by lia,by lia,fun g hg=>?_⟩
  refine rK (fun i ys G=>∃ ts:List Addr,ys=ts.map V.ref/\ts.length=i/\Same H3 G/\G g=some (.lst ys)/\∀ t∈ts,G t=some (.lst (t3L ⟨0,0,0⟩)))
   ⟨[],rfl,rfl,Same.new hg,aj,fun _ m=>nomatch m⟩ ?_ ?_ ?_ ?_
  ·rintro i ys G hi ⟨ts,rfl,rfl,s4,hl,_⟩
   exact ⟨hl,cL (by rw [bA];lia)⟩
  ·rintro i ys G hi ⟨ts,rfl,rfl,s4,hl,et⟩
   refine ⟨by show 3<=sizeLine;decide,fun u hu=>?_⟩
   have s5:=Same.new (o:=.lst [.int 0,.int 0,.int 0]) hu
   have e5:(upd G u (.lst [.int 0,.int 0,.int 0])) u=some (.lst (t3L ⟨0,0,0⟩)):=aj
   generalize upd G u (.lst [.int 0,.int 0,.int 0])=G1 at s5 e5 ⊢
   have hl5:=s5 _ _ hl
   refine ⟨hl5,ts++[u],by rw [dN];rfl,by rw [dh];rfl,fun b o e=>by rw [au (ak e hg)];exact s5 _ _ (s4 b o e),aj,fun v m=>?_⟩
   rcases dg.mp m with m | m
   ·have e:=s5 _ _ (et v m)
    rw [au (YD hl5 e)];exact e
   ·rw [d8.mp m,au (YD hl5 e5)];exact e5
  rotate_left
  ·exact fun σ H Q Q' hq ⟨v,h⟩=>⟨v,fun x hx=>hq _ _ (h x hx)⟩
  rintro ys H4 ⟨ts,rfl,hlt,s4,hl4,et⟩
  obtain ⟨ps0,I0,T0,l0⟩:=Iv.start r2 r64 ev kr s02 s3 s4 hf hg hl3 hl4 tb_g% ex djx et
  rw [hlx] at l0
  clear ex djx et hl3 hl4 hlx hlt s3 s4 hf hg ht2
  refine ⟨_,rfl,a,rfl,⟨_,I0.s.seq hS⟩,GZ (K:=K) (a:=a) (xs:=ns.map V.int) (fun i σ G=>∃ (ps:List It) (pool:List Int) (R pw b:Nat) (y7 y8 y9 y10 y11:Option V),σ=[some (.ref a),some (.ref t),some (.int many),some (.ref f),some (.ref g),some (.int (pw:Int)),some (.int (b:Int)),y7,y8,y9,y10,y11]/\Iv A H G f g room reach span pool R pw ps/\(∀ p∈ps,Te p)/\ps.length=many.toNat/\pw<=8/\b<=2/\R<=i+73*b)
   ⟨ps0,[],0,0,0,none,none,none,none,none,rfl,I0,T0,l0,by decide,by decide,by decide⟩ (fun i σ G _ ⟨_,_,_,_,_,_,_,_,_,_,_,I,_⟩=>I.s.seq hS) ?_ ?_⟩
  rotate_left
  ·rintro σ G ⟨_,_,_,_,_,_,_,_,_,_,rfl,_⟩
   exact q _
  clear I0 T0 l0 ps0
  rintro i v σ G hi ⟨ps,pool,R,pw,b,y7,y8,y9,y10,y11,rfl,I,TE,ln,pw8,b2,hR⟩
  have hi':i<63:=by
   have:=(fQ.mp hi).1
   rw [bA] at this;lia
  obtain ⟨cell,_,rfl⟩:=int_at hi
  refine ⟨_,rfl,_,_,_,rfl,by decide,by decide,by decide,fun v1 v10 v11=>⟨_,rfl,_,_,rfl,rfl,by lia,?_⟩⟩
  have a1:=qZ v1 (show many≠0 by lia)
  have a2:=yQ v1 (show 0<many by lia)
  dsimp only
  generalize v1 % many=at1 at a1 a2 ⊢
  refine ⟨_,rfl,_,_,_,rfl,by decide,by decide,by decide,fun v2 v20 v21=>⟨_,rfl,_,_,rfl,rfl,by lia,?_⟩⟩
  have o1:=qZ v2 (show many≠0 by lia)
  have o2:=yQ v2 (show 0<many by lia)
  dsimp only
  generalize v2 % many=ot at o1 o2 ⊢
  clear v1 v10 v11 v2 v20 v21
  obtain ⟨ia,rfl⟩:=ac4 a1
  obtain ⟨io,rfl⟩:=ac4 o1
  obtain ⟨as,p,bs,rfl,rfl⟩:∃ as p bs,ps=as++p::bs/\as.length=ia:=by
   have lA:ia<ps.length:=by lia
   refine ⟨ps.take ia,ps[ia],ps.drop (ia+1),?_,by rw [gJ];lia⟩
   conv=>lhs;rw [<- FT ia ps,JK lA]
  have lO:io<(as++p::bs).length:=by lia
  obtain ⟨qo,eo⟩:∃ qo,(as++p::bs)[io]? = some qo:=⟨_,gR lO⟩
  have mo:qo∈as++p::bs:=List.mem_of_getElem? eo
  have xk:∀ {p':It},(((as++p'::bs).map fun p=>p.x.k).map V.ref)[as.length]? = some (.ref p'.x.k):=by simp
  have xt:∀ {p':It},(((as++p'::bs).map fun p=>p.t).map V.ref)[as.length]? = some (.ref p'.t):=by simp
  have lp:∀ {p':It},(as++p'::bs).length=many.toNat:=fun {p'}=>by rw [<- ln,dh,dh];rfl
  have la:∀ {p':It},as.length<(as++p'::bs).length:=fun {p'}=>by rw [dh];show as.length<as.length+(bs.length+1);lia
  have h700:i+73*b<=300:=by lia
  have pwb:2 ^ pw<=256:=iC (xJ (by decide) pw8) (by decide)
  refine sq fun Z hZ=>?_
  have fin:∀ (G':Hp) (p':It) (DW:List Int) (R' pw' b':Nat) (y10 y11:Option V),Iv A H G' f g room reach span DW R' pw' (as++p'::bs)->(∀ q∈as++p'::bs,Te q)->pw'<=8->b'<=2->R'<=i+1+73*b' ->
    Z [some (.ref a),some (.ref t),some (.int many),some (.ref f),some (.ref g),some (.int (pw':Int)),some (.int (b':Int)),some (.int cell),some (.int (as.length:Int)),some (.int (io:Int)),y10,y11] G':=by
   intro G' p' DW R' pw' b' y10 y11 I' T' w1 w2 w3
   refine hZ _ _ ?_
   obtain ⟨n,_,kn⟩:=(I'.ok p' mid).kh
   obtain ⟨e1,e2,e3,e4,e5⟩:=T' p' mid
   refine ⟨_,rfl,_,rfl,dO (.inl (.inl I'.l)) (v:=.ref p'.x.k) (gO xk) ⟨_,rfl,_,rfl,dO (.inl (.inl I'.m)) (v:=.ref p'.t) (gO xt) ⟨p'.x,n,p'.t,p'.y,rfl,I'.kp p' mid,kn,I'.tt p' mid,e1,e2,e3,e4,e5,fun G2 s2=>⟨_,rfl,zp ?_⟩⟩⟩⟩
   exact ⟨_,DW,R',pw',b',_,_,_,_,_,rfl,I'.same s2,T',lp,w1,w2,w3⟩
  clear hZ
  have ek:∀ {p':It} {z:KS},(((as++p'::bs).map fun p=>p.x.k).map V.ref).set as.length (.ref z.k)=(((as++(⟨z,p'.t,p'.y⟩:It)::bs).map fun p=>p.x.k).map V.ref):=by simp
  have et:∀ {p':It} {D:Addr} {y:T3},(((as++p'::bs).map fun p=>p.t).map V.ref).set as.length (.ref D)=(((as++(⟨p'.x,D,y⟩:It)::bs).map fun p=>p.t).map V.ref):=by simp
  have ll:∀ {p':It} {h:It->Addr},as.length<(((as++p'::bs).map h).map V.ref).length:=fun {p' h}=>by rw [bA,bA];exact la
  refine agi (P1:=V.int (cell % 4)=V.int 3) (P2:=(pw:Int)<8) (fun k hk=>⟨_,rfl,_,_,rfl,rfl,(by show (0:Int)<4;decide),rfl,_,rfl,hk⟩) (fun k hk=>⟨_,rfl,_,_,rfl,rfl,_,rfl,hk⟩) (fun _ c2=>?_) (fun _=>?_)
  ·have c2:pw<8:=by lia
   refine ⟨_,rfl,_,_,rfl,rfl,?_⟩
   obtain ⟨n,m,al,oz⟩:=(I.ok p mid).alk (I.ok qo mo) I.pl tb_g% (iC (Uv (show R<=220 by lia) (xJ (show 0<2 by decide) (show pw+1<=8 by lia))) (by decide))
   have xo:(((as++p::bs).map fun p=>p.x.k).map V.ref)[io]? = some (.ref qo.x.k):=by rw [iB,iB,eo];rfl
   refine ⟨_,rfl,_,rfl,dO (.inl (.inl I.l)) (v:=.ref p.x.k) (gO xk) ⟨_,rfl,_,rfl,dO (.inl (.inl I.l)) (v:=.ref qo.x.k) (gO xo) (.inl ⟨p.x,qo.x,n,m,rfl,I.kp p mid,I.kp qo mo,al,fun z G1 kz kpz fz ez s1=>?_⟩)⟩⟩
   refine ⟨_,rfl,_,rfl,.inl ⟨f,_,_,as.length,rfl,rfl,s1 _ _ I.l,mQ ll,?_⟩⟩
   rw [ek]
   have I1:=I.new s1 kz fz ez (oz z kpz)
   generalize upd G1 f (.lst (((as++(⟨z,p.t,p.y⟩:It)::bs).map fun p=>p.x.k).map V.ref))=G2 at I1 ⊢
   refine ⟨3,rfl,by decide,by decide,fun D hD=>?_⟩
   have tp:G2 p.t=some (.lst (t3L p.y)):=I1.tt ⟨z,p.t,p.y⟩ mid
   have tq:G2 qo.t=some (.lst (t3L qo.y)):=by
    rcases iz mo with rfl | m
    ·exact tp
    ·exact I1.tt qo (gC m)
   have xq:(((as++(⟨z,p.t,p.y⟩:It)::bs).map fun p=>p.t).map V.ref)[io]? = some (.ref qo.t):=by
    have:((as++(⟨z,p.t,p.y⟩:It)::bs).map fun p=>p.t)=(as++p::bs).map fun p=>p.t:=by simp
    rw [this,iB,iB,eo];rfl
   refine rK (n:=3) (fun j ys G3=>ys=(t3L (Jm p.y qo.y)).take j/\G3=upd G2 D (.lst ys)) ⟨rfl,rfl⟩ ?_ ?_ ?_ ?_
   ·rintro j ys G3 hj ⟨rfl,rfl⟩
    exact ⟨aj,cL (by rw [gJ];show min j 3<=1000;lia)⟩
   ·rintro j ys G3 hj ⟨rfl,rfl⟩
    have fM:=(Same.new (o:=.lst ((t3L (Jm p.y qo.y)).take j)) hD) _ _ I1.m
    have fp:=(Same.new (o:=.lst ((t3L (Jm p.y qo.y)).take j)) hD) _ _ tp
    have fq:=(Same.new (o:=.lst ((t3L (Jm p.y qo.y)).take j)) hD) _ _ tq
    rcases (show j=0\/j=1\/j=2 by lia) with rfl | rfl | rfl
    ·exact ⟨_,rfl,_,rfl,dO (.inl (.inl fM)) (v:=.ref p.t) (gO xt) ⟨_,rfl,dO (.inl (.inl fp)) (v:=.int p.y.a) rfl ⟨_,rfl,_,rfl,dO (.inl (.inl fM)) (v:=.ref qo.t) (gO xq) ⟨_,rfl,dO (.inl (.inl fq)) (v:=.int qo.y.a) rfl ⟨_,_,rfl,rfl,aj,rfl,by rw [cJ]⟩⟩⟩⟩⟩
    ·exact ⟨_,rfl,_,rfl,dO (.inl (.inl fM)) (v:=.ref p.t) (gO xt) ⟨_,rfl,dO (.inl (.inl fp)) (v:=.int p.y.b) rfl ⟨_,rfl,_,rfl,dO (.inl (.inl fM)) (v:=.ref qo.t) (gO xq) ⟨_,rfl,dO (.inl (.inl fq)) (v:=.int qo.y.b) rfl ⟨_,_,rfl,rfl,aj,rfl,by rw [cJ]⟩⟩⟩⟩⟩
    ·exact ⟨_,rfl,_,rfl,dO (.inl (.inl fM)) (v:=.ref p.t) (gO xt) ⟨_,rfl,dO (.inl (.inl fp)) (v:=.int p.y.c) rfl ⟨_,rfl,_,rfl,dO (.inl (.inl fM)) (v:=.ref qo.t) (gO xq) ⟨_,rfl,dO (.inl (.inl fq)) (v:=.int qo.y.c) rfl ⟨_,_,rfl,rfl,aj,rfl,by rw [cJ]⟩⟩⟩⟩⟩
   ·rintro ys G3 ⟨rfl,rfl⟩
    have I2:=I1.same (Same.new (o:=.lst ((t3L (Jm p.y qo.y)).take 3)) hD)
    have eD:(upd G2 D (.lst ((t3L (Jm p.y qo.y)).take 3))) D=some (.lst (t3L (Jm p.y qo.y))):=aj
    generalize upd G2 D (.lst ((t3L (Jm p.y qo.y)).take 3))=G4 at I2 eD ⊢
    refine ⟨_,rfl,_,rfl,.inl ⟨g,_,_,as.length,rfl,rfl,I2.m,mQ ll,?_⟩⟩
    rw [et (y:=Jm p.y qo.y)]
    exact fin _ ⟨z,D,Jm p.y qo.y⟩ pool R (pw+1) b _ _ (I2.tot eD) (fun r m=>by
     walk_at "m"
     ·exact (TE p mid).aeM (TE qo mo) kpz
     ·exact TE r (gC m)) tb_g% b2 tb_g%
   ·exact lg (jm (jm (bO 1) (bO 2)) (bO 0)) (jm (jm (bO 1) (bO 3)) (bO 0))
  refine ⟨_,rfl,_,_,rfl,rfl,⟨by decide,by decide⟩,_,rfl,fun t1 r1 G1 ok1 n1 ht1 s1=>⟨by show 1<=sizeLine;decide,fun L1 hL1=>?_⟩⟩
  dsimp only [uG]
  refine sq fun Y hY=>?_
  have agj:∀ (G2:Hp) (W:Addr) (rs:List (Addr × R3)) (b':Nat),Same G G2->W≠g->G2 W=some (.lst (rs.map fun p=>V.ref p.1))->(∀ p∈rs,G2 p.1=some (r3V p.2)/\p.2.ok)->b'<=2->R+rs.length<=i+1+73*b' ->
    Y [some (.ref a),some (.ref t),some (.int many),some (.ref f),some (.ref g),some (.int (pw:Int)),some (.int (b':Int)),some (.int cell),some (.int (as.length:Int)),some (.int (io:Int)),some (.ref W),y11] G2:=by
   intro G2 W rs b' s2 nW hW hrs hb' hl
   refine hY _ _ ?_
   have I2:=I.same s2
   refine ⟨_,rfl,W,rfl,⟨_,.inl (.inl hW)⟩,GZ (K:=K) (a:=W) (xs:=rs.map fun p=>V.ref p.1) (fun j σ G3=>∃ (p':It) (DW:List Int) (y11:Option V),σ=[some (.ref a),some (.ref t),some (.int many),some (.ref f),some (.ref g),some (.int (pw:Int)),some (.int (b':Int)),some (.int cell),some (.int (as.length:Int)),some (.int (io:Int)),some (.ref W),y11]/\Iv A H G3 f g room reach span DW (R+j) pw (as++p'::bs)/\(∀ q∈as++p'::bs,Te q)/\G3 W=some (.lst (rs.map fun p=>V.ref p.1))/\∀ p∈rs,G3 p.1=some (r3V p.2))
    ⟨p,pool,_,rfl,I2,TE,hW,fun p m=>(hrs p m).1⟩ (fun j σ G3 _ ⟨_,_,_,_,_,_,h,_⟩=>.inl (.inl h)) ?_ ?_⟩
   rotate_left
   ·rintro σ G3 ⟨p',DW,y11,rfl,I',T',_⟩
    rw [bA] at I'
    exact fin G3 p' DW _ pw b' _ _ I' T' pw8 hb' hl
   rintro j v σ G3 hj ⟨p',DW,y11,rfl,I',T',hW',hr'⟩
   rw [iB] at hj
   obtain ⟨pr,hp,rfl⟩:=BL.mp hj
   have mr:=List.mem_of_getElem? hp
   have jl:j<rs.length:=(fQ.mp hp).1
   have ok:=(hrs pr mr).2
   obtain ⟨n,hn,kn⟩:=(I'.ok p' mid).kh
   have bd:(R+j)*2 ^ pw<60000:=Gk (Uv (show R+j<=220 by lia) pwb) (by decide)
   have hx:=I'.kp p' mid
   refine ⟨_,rfl,_,rfl,dO (.inl (.inl I'.l)) (v:=.ref p'.x.k) (gO xk) ⟨_,rfl,p'.x,n,pr.1,pr.2,rfl,hx,kn,by lia,hr' pr mr,ok,fun x' G4 k4 s4 f4 e4=>?_⟩⟩
   have I4:=I'.done k4 s4 f4 e4 ok tb_g% bd
   have kl:∀ {b:Addr} {vs:List V},G3 b=some (.lst vs)->G4 b=some (.lst vs):=fun {b vs} e=>f4.pb _ _ e fun m=>by
    obtain ⟨C,d,fs,e2⟩:=hx.live b (mR.mpr (.inr m))
    rw [e] at e2;cases e2
   have kt:∀ {b:Addr} {r:R3},G3 b=some (r3V r)->G4 b=some (r3V r):=fun {b r} e=>f4.pb _ _ e fun m=>by
    obtain ⟨C,d,fs,e2⟩:=hx.live b (mR.mpr (.inr m))
    rw [e] at e2;cases e2
   refine ⟨_,rfl,_,rfl,dO (.inl (.inl I4.m)) (v:=.ref p'.t) (gO xt) ⟨_,rfl,p'.t,pr.1,p'.y,pr.2,rfl,I4.tt ⟨x',p'.t,p'.y⟩ mid,kt (hr' pr mr),ok,fun D G5 nD gD s5=>?_⟩⟩
   refine ⟨_,rfl,_,rfl,.inl ⟨g,_,_,as.length,rfl,rfl,s5 _ _ I4.m,mQ ll,?_⟩⟩
   rw [et (y:=abb p'.y pr.2)]
   refine ⟨⟨x',D,abb p'.y pr.2⟩,_,_,rfl,(I4.same s5).tot gD,fun r m=>?_,?_,fun r m=>?_⟩
   ·walk_at "m"
    ·exact (T' p' mid).row s4
    ·exact T' r (gC m)
   ·rw [au nW];exact s5 _ _ (kl hW')
   ·have e:=s5 _ _ (kt (hr' r m))
    rw [au (fun z=>by rw [z,s5 _ _ I4.m] at e;cases e)];exact e
  clear hY
  have nL1:L1≠g:=aK (ak (s1 _ _ I.m) hL1)
  have s12:=s1.trans (Same.new (o:=.lst [.ref t1]) hL1)
  have eL:(upd G1 L1 (.lst [.ref t1])) L1=some (.lst ([(t1,r1)].map fun p=>V.ref p.1)):=aj
  have et1:=(Same.new (o:=.lst [.ref t1]) hL1) _ _ ht1
  generalize upd G1 L1 (.lst [.ref t1])=G2 at s12 eL et1 ⊢
  refine agi (P1:=V.int (cell % 4)=V.int 2) (P2:=V.int (cell / 4 % 7)=V.int 0/\(b:Int)<2) (fun k hk=>⟨_,rfl,_,_,rfl,rfl,(by show (0:Int)<4;decide),rfl,_,rfl,hk⟩) (t_and (fun k hk=>⟨_,rfl,_,_,rfl,rfl,⟨by decide,by decide⟩,_,_,rfl,rfl,(by show (0:Int)<7;decide),rfl,_,rfl,hk⟩) (fun k hk=>⟨_,rfl,_,_,rfl,rfl,_,rfl,hk⟩)) (fun _ c2=>?_) (fun _=>?_)
  rotate_left
  ·exact agj G2 L1 [(t1,r1)] b s12 nL1 eL (fun p m=>by rw [d8.mp m];exact ⟨et1,ok1⟩) b2 (by show R+1<=_;lia)
  have c3:b<2:=by have:=c2.2;lia
  refine ⟨_,rfl,_,_,rfl,rfl,?_⟩
  refine ⟨_,rfl,_,_,rfl,rfl,⟨by decide,by decide⟩,_,_,rfl,rfl,(by show (0:Int)<8;decide),_,_,rfl,rfl,?_⟩
  have n1':66<=66+cell / 28 % 8/\66+cell / 28 % 8<=73:=by lia
  dsimp only
  generalize 66+cell / 28 % 8=nn at n1' ⊢
  refine ⟨_,rfl,by lia,by lia,fun D hD=>?_⟩
  have nD:D≠g:=aK (ak (s12 _ _ I.m) hD)
  refine rK (fun j ys G3=>∃ rs:List (Addr × R3),ys=(rs.map fun p=>V.ref p.1)/\rs.length=j/\Same G2 G3/\G3 D=some (.lst ys)/\∀ p∈rs,G3 p.1=some (r3V p.2)/\p.2.ok)
   ⟨[],rfl,rfl,Same.new hD,aj,fun _ m=>nomatch m⟩ ?_ ?_ ?_ ?_
  ·rintro j ys G3 hj ⟨rs,rfl,rfl,s3,hl,_⟩
   exact ⟨hl,cL (by rw [bA];lia)⟩
  ·rintro j ys G3 hj ⟨rs,rfl,rfl,s3,hl,er⟩
   refine ⟨_,rfl,_,rfl,_,_,rfl,rfl,_,_,_,rfl,by decide,by decide,by decide,fun v v0 v1=>⟨_,_,rfl,rfl,O3 (by decide) (by decide),_,rfl,fun u r G4 ok4 nu hu s4=>?_⟩⟩
   refine ⟨s4 _ _ hl,rs++[(u,r)],by rw [dN];rfl,by rw [dh];rfl,fun b o e=>by rw [au (ak e hD)];exact s4 _ _ (s3 b o e),aj,fun x m=>?_⟩
   have nt:∀ {b:Addr} {r:R3},G4 b=some (r3V r)->b≠D:=fun {b r} e z=>by rw [z,s4 _ _ hl] at e;cases e
   rcases dg.mp m with m | m
   ·have e:=s4 _ _ (er x m).1
    exact ⟨by rw [au (nt e)];exact e,(er x m).2⟩
   ·rw [d8.mp m]
    exact ⟨by rw [au (nt hu)];exact hu,ok4⟩
  ·rintro ys G3 ⟨rs,rfl,hlr,s3,hl,er⟩
   exact agj G3 D rs (b+1) (s12.trans s3) nD hl er tb_g% tb_g%
  ·exact K7 (fun _ _ _ _ hq ⟨c,e,z⟩=>⟨c,e,fun t r H' x y u w=>hq _ _ (z t r H' x y u w)⟩) (gq (ag4 (jw _) (K7 (fun _ _ _ _ hq ⟨c,f,p,e,x,y,u,z⟩=>⟨c,f,p,e,x,y,u,fun v v0 v1=>hq _ _ (z v v0 v1)⟩) (gq (lg (bO 1) (bO 0)) (gq (jw _) (gq (jw _) qI))))) qI)
theorem bOf0 {K:bh} {x:Str} (F:Fun K x q st f fd) (h:∀ (kV dc pm:Value) (an:Option Addr) (cd ct:Value),wL (j7 x q (jJ st) (iR st) (aH st) .none kV dc pm an cd ct) ⟨[],[]⟩=pure []):Binds K fd [] [] :=
 F.binds fun _ _ _ _ _ _ us hl=>match us,hl with | [],_=>h _ _ _ _ _ _
theorem Qd {K:bh} {x:Str} (F:Fun K x q st f fd) (h:∀ (kV dc pm:Value) (an:Option Addr) (cd ct u0:Value),wL (j7 x q (jJ st) (iR st) (aH st) .none kV dc pm an cd ct) ⟨[u0],[]⟩=pure [(p0,u0)]):Binds K fd [p0] [] :=
 F.binds fun _ _ _ _ _ _ us hl=>match us,hl with | [u0],_=>h _ _ _ _ _ _ u0
theorem jA {K:bh} {x:Str} {p1:Str} (F:Fun K x q st f fd) (h:∀ (kV dc pm:Value) (an:Option Addr) (cd ct u0 u1:Value),wL (j7 x q (jJ st) (iR st) (aH st) .none kV dc pm an cd ct) ⟨[u0,u1],[]⟩=pure [(p0,u0),(p1,u1)]):Binds K fd [p0,p1] [] :=
 F.binds fun _ _ _ _ _ _ us hl=>match us,hl with | [u0,u1],_=>h _ _ _ _ _ _ u0 u1
theorem Eo {K:bh} {x:Str} {p1 p2:Str} (F:Fun K x q st f fd) (h:∀ (kV dc pm:Value) (an:Option Addr) (cd ct u0 u1 u2:Value),wL (j7 x q (jJ st) (iR st) (aH st) .none kV dc pm an cd ct) ⟨[u0,u1,u2],[]⟩=pure [(p0,u0),(p1,u1),(p2,u2)]):Binds K fd [p0,p1,p2] [] :=
 F.binds fun _ _ _ _ _ _ us hl=>match us,hl with | [u0,u1,u2],_=>h _ _ _ _ _ _ u0 u1 u2
theorem bOf4 {K:bh} {x:Str} {p1 p2 p3:Str} (F:Fun K x q st f fd) (h:∀ (kV dc pm:Value) (an:Option Addr) (cd ct u0 u1 u2 u3:Value),wL (j7 x q (jJ st) (iR st) (aH st) .none kV dc pm an cd ct) ⟨[u0,u1,u2,u3],[]⟩=pure [(p0,u0),(p1,u1),(p2,u2),(p3,u3)]):Binds K fd [p0,p1,p2,p3] [] :=
 F.binds fun _ _ _ _ _ _ us hl=>match us,hl with | [u0,u1,u2,u3],_=>h _ _ _ _ _ _ u0 u1 u2 u3
theorem LK.fn {K:bh} {n:Str} (h:LK K n q s f):∃ fd,Fun K n q s f fd:=by
 obtain ⟨oc,od,an,sl,kV,dc,pm,cd,ct,l,c,k⟩:=h
 exact ⟨_,ajR l c k⟩
noncomputable def fdOf {K:bh} {n q:Str} {s:Stmt} {f:Addr} (h:LK K n q s f):FuncData:=adP h.fn
theorem aW {K:bh} {n:Str} (h:LK K n q s f):Fun K n q s f (fdOf h):=adO h.fn
theorem CK.cl {K:bh} {C:Addr} (h:CK K C):Cls K C:=⟨h.1,h.2.1,h.2.2.1,h.2.2.2.1⟩
theorem CK.mk {K:bh} {C:Addr} (h:CK K C) (m:MeK K C "__init__" q s f):Mk K C f:=⟨h.2.2.2.2.1,m.1,m.2.1,h.2.2.2.2.2⟩
theorem MeK.mt {K:bh} {C:Addr} {n:Str} (m:MeK K C n q s f) (F:Fun K n q s f fd):Meth K C n f:=⟨m.1,m.2.1,F.kp⟩
noncomputable def RR (w:World) (K:bh) (mg:Str->Option Value) (fa:Addr):Prop:=∃ fd:FuncData,(∀ (s:Shared) (v:Value),Az s fd ⟨[v],[]⟩ [("_law_script",v)])/\∀ base:Heap,K.In base->base.Ns fG mg->cY Dc.prog w K mg base CX0 9 fa fd ["_law_script"] (afO K)
theorem all_mk:ad9 RR:=by
 intro w K h mg fa cX gW gK gY qx bw BW f'0 f'1 f'2 f'3 f'4 f'5 f'6 f'7 f'8 f'9 Qe VF VG VH VJ VL Qf VN VP VR Qg V0 V1 V2 V3 V4 Qh V5 V6 V7 V8 V9 Qi Wa Wb Wc Wd Wf Wg Wh Wj Wk Wl Wm Wo Wq Wr Ws Wt Wu Wv Ww Wx Z9 X G hfa YM uF yS YQ qy vm YS lF oZ YT lG o8 YW ni rB YX lH o9 YZ iK a'0 a'1 a'2 a'3 a'4 a'5 a'6 a'7 a'8 a'9 N5 Qj Qk Ql Wy Wz N6 WD Qm Qn N7 WK WL Qo Qp WM N8 Qq Qs Qt Qu Qv Oa WQ WR WT WW WX WY W0 W5 W6 W7 W8 W9 Xa Xb Xc Xd Xe Xf Xg Xh Jo zk Y0 Ob qz jk JV yU
 have e:=hfa.symm.trans (dw X G Jo.1)
 cases e
 obtain ⟨zN,zO,wA,wB,qJ,Dp,Dq,wC,_⟩:=yS
 obtain ⟨zP,zQ,mK,zR,_⟩:=vm
 obtain ⟨zT,Dr,uO,zU,_⟩:=oZ
 obtain ⟨zV,zW,wD,Ds,_⟩:=o8
 obtain ⟨Dt,wF,_⟩:=rB
 obtain ⟨zX,Du,wG,Dv,Dw,Dy,Dz,uP,DG,DK,_⟩:=o9
 obtain ⟨akN,z_len,akO,z_max,z_min,ahJ,YG,z_set,agk,z_sum,z_zip,_⟩:=zk
 have T:Tx K mg ⟨cX,gW,gK,gY,qx,bw,BW,f'0,fdOf a'0.2,f'1,fdOf a'1.2,f'2,fdOf a'2.2,f'3,fdOf a'3.2.2,f'4,fdOf a'4.2.2,f'5,fdOf a'5.2,f'6,fdOf a'6.2,f'7,fdOf a'7.2.2,f'8,fdOf a'8.2.2,f'9,fdOf a'9.2,Qe,fdOf N5.2.2,VF,fdOf Qj.2.2,VG,fdOf Qk.2.2,VH,fdOf Ql.2.2,VJ,fdOf Wy.2,VL,fdOf Wz.2,Qf,fdOf N6.2.2,VN,fdOf WD.2,VP,fdOf Qm.2.2,VR,fdOf Qn.2.2,Qg,fdOf N7.2.2,V0,fdOf WK.2,V1,fdOf WL.2,V2,fdOf Qo.2.2,V3,fdOf Qp.2.2,V4,fdOf WM.2,Qh,fdOf N8.2.2,V5,fdOf Qq.2.2,V6,fdOf Qs.2.2,V7,fdOf Qt.2.2,V8,fdOf Qu.2.2,V9,fdOf Qv.2.2,Qi,fdOf Oa.2.2,Wa,fdOf WQ.2,Wb,fdOf WR.2,Wc,fdOf WT.2,Wd,fdOf WW.2,Wf,fdOf WX.2,Wg,fdOf WY.2,Wh,fdOf W0.2,Wj,fdOf W5.2,Wk,fdOf W6.2,Wl,fdOf W7.2,Wm,fdOf W8.2,Wo,fdOf W9.2,Wq,fdOf Xa.2,Wr,fdOf Xb.2,Ws,fdOf Xc.2,Wt,fdOf Xd.2,Wu,fdOf Xe.2,Wv,fdOf Xf.2,Ww,fdOf Xg.2,Wx,fdOf Xh.2,fa,fdOf Jo.2⟩:=⟨uF.cl,
  dw X G YM,
  uF.mk a'7,
  zN,
  zO,
  wA,
  wB,
  qJ,
  Dp,
  Dq,
  wC,
  qy.cl,
  dw X G YQ,
  qy.mk N5,
  zP,
  zQ,
  mK,
  zR,
  lF.cl,
  dw X G YS,
  lF.mk N6,
  zT,
  Dr,
  uO,
  zU,
  lG.cl,
  dw X G YT,
  lG.mk N7,
  zV,
  zW,
  wD,
  Ds,
  ni.cl,
  dw X G YW,
  ni.mk N8,
  Dt,
  wF,
  lH.cl,
  dw X G YX,
  lH.mk Oa,
  zX,
  Du,
  wG,
  Dv,
  Dw,
  Dy,
  Dz,
  uP,
  DG,
  DK,
  dw X G YZ,
  iK,
  aW a'0.2,
  Eo (aW a'0.2) (by intros;rfl),
  dw X G a'0.1,
  aW a'1.2,
  Qd (aW a'1.2) (by intros;rfl),
  dw X G a'1.1,
  aW a'2.2,
  jA (aW a'2.2) (by intros;rfl),
  dw X G a'2.1,
  aW a'3.2.2,
  jA (aW a'3.2.2) (by intros;rfl),
  a'3.mt (aW a'3.2.2),
  aW a'4.2.2,
  jA (aW a'4.2.2) (by intros;rfl),
  a'4.mt (aW a'4.2.2),
  aW a'5.2,
  jA (aW a'5.2) (by intros;rfl),
  dw X G a'5.1,
  aW a'6.2,
  jA (aW a'6.2) (by intros;rfl),
  dw X G a'6.1,
  aW a'7.2.2,
  jA (aW a'7.2.2) (by intros;rfl),
  a'7.mt (aW a'7.2.2),
  aW a'8.2.2,
  Eo (aW a'8.2.2) (by intros;rfl),
  a'8.mt (aW a'8.2.2),
  aW a'9.2,
  jA (aW a'9.2) (by intros;rfl),
  dw X G a'9.1,
  aW N5.2.2,
  Eo (aW N5.2.2) (by intros;rfl),
  N5.mt (aW N5.2.2),
  aW Qj.2.2,
  jA (aW Qj.2.2) (by intros;rfl),
  Qj.mt (aW Qj.2.2),
  aW Qk.2.2,
  jA (aW Qk.2.2) (by intros;rfl),
  Qk.mt (aW Qk.2.2),
  aW Ql.2.2,
  jA (aW Ql.2.2) (by intros;rfl),
  Ql.mt (aW Ql.2.2),
  aW Wy.2,
  Qd (aW Wy.2) (by intros;rfl),
  dw X G Wy.1,
  aW Wz.2,
  Qd (aW Wz.2) (by intros;rfl),
  dw X G Wz.1,
  aW N6.2.2,
  jA (aW N6.2.2) (by intros;rfl),
  N6.mt (aW N6.2.2),
  aW WD.2,
  jA (aW WD.2) (by intros;rfl),
  dw X G WD.1,
  aW Qm.2.2,
  jA (aW Qm.2.2) (by intros;rfl),
  Qm.mt (aW Qm.2.2),
  aW Qn.2.2,
  jA (aW Qn.2.2) (by intros;rfl),
  Qn.mt (aW Qn.2.2),
  aW N7.2.2,
  jA (aW N7.2.2) (by intros;rfl),
  N7.mt (aW N7.2.2),
  aW WK.2,
  jA (aW WK.2) (by intros;rfl),
  dw X G WK.1,
  aW WL.2,
  jA (aW WL.2) (by intros;rfl),
  dw X G WL.1,
  aW Qo.2.2,
  jA (aW Qo.2.2) (by intros;rfl),
  Qo.mt (aW Qo.2.2),
  aW Qp.2.2,
  Eo (aW Qp.2.2) (by intros;rfl),
  Qp.mt (aW Qp.2.2),
  aW WM.2,
  Eo (aW WM.2) (by intros;rfl),
  dw X G WM.1,
  aW N8.2.2,
  jA (aW N8.2.2) (by intros;rfl),
  N8.mt (aW N8.2.2),
  aW Qq.2.2,
  Eo (aW Qq.2.2) (by intros;rfl),
  Qq.mt (aW Qq.2.2),
  aW Qs.2.2,
  Eo (aW Qs.2.2) (by intros;rfl),
  Qs.mt (aW Qs.2.2),
  aW Qt.2.2,
  Eo (aW Qt.2.2) (by intros;rfl),
  Qt.mt (aW Qt.2.2),
  aW Qu.2.2,
  Eo (aW Qu.2.2) (by intros;rfl),
  Qu.mt (aW Qu.2.2),
  aW Qv.2.2,
  jA (aW Qv.2.2) (by intros;rfl),
  Qv.mt (aW Qv.2.2),
  aW Oa.2.2,
  bOf4 (aW Oa.2.2) (by intros;rfl),
  Oa.mt (aW Oa.2.2),
  aW WQ.2,
  Eo (aW WQ.2) (by intros;rfl),
  dw X G WQ.1,
  aW WR.2,
  bOf0 (aW WR.2) (by intros;rfl),
  dw X G WR.1,
  aW WT.2,
  Qd (aW WT.2) (by intros;rfl),
  dw X G WT.1,
  aW WW.2,
  Qd (aW WW.2) (by intros;rfl),
  dw X G WW.1,
  aW WX.2,
  Qd (aW WX.2) (by intros;rfl),
  dw X G WX.1,
  aW WY.2,
  Qd (aW WY.2) (by intros;rfl),
  dw X G WY.1,
  aW W0.2,
  jA (aW W0.2) (by intros;rfl),
  dw X G W0.1,
  aW W5.2,
  jA (aW W5.2) (by intros;rfl),
  dw X G W5.1,
  aW W6.2,
  jA (aW W6.2) (by intros;rfl),
  dw X G W6.1,
  aW W7.2,
  jA (aW W7.2) (by intros;rfl),
  dw X G W7.1,
  aW W8.2,
  jA (aW W8.2) (by intros;rfl),
  dw X G W8.1,
  aW W9.2,
  jA (aW W9.2) (by intros;rfl),
  dw X G W9.1,
  aW Xa.2,
  jA (aW Xa.2) (by intros;rfl),
  dw X G Xa.1,
  aW Xb.2,
  Qd (aW Xb.2) (by intros;rfl),
  dw X G Xb.1,
  aW Xc.2,
  jA (aW Xc.2) (by intros;rfl),
  dw X G Xc.1,
  aW Xd.2,
  jA (aW Xd.2) (by intros;rfl),
  dw X G Xd.1,
  aW Xe.2,
  Eo (aW Xe.2) (by intros;rfl),
  dw X G Xe.1,
  aW Xf.2,
  Eo (aW Xf.2) (by intros;rfl),
  dw X G Xf.1,
  aW Xg.2,
  jA (aW Xg.2) (by intros;rfl),
  dw X G Xg.1,
  aW Xh.2,
  jA (aW Xh.2) (by intros;rfl),
  dw X G Xh.1,
  aW Jo.2,
  Qd (aW Jo.2) (by intros;rfl),
  dw X G Jo.1,
  ug X G akN,
  ug X G z_len,
  ug X G akO,
  ug X G z_max,
  ug X G z_min,
  ug X G ahJ,
  ug X G YG,
  ug X G z_set,
  ug X G agk,
  ug X G z_sum,
  ug X G z_zip,
  ⟨_,dw X G Ob,_,rfl⟩,
  ⟨_,dw X G jk,_,rfl⟩,
  ⟨_,dw X G yU,_,rfl⟩,
  aeP _ _ (by decide)⟩
 refine ⟨fdOf Jo.2,fun s v=>?_,fun base _ _=>ok'53 T⟩
 obtain ⟨_,_,_,_,_,_,_,_,_,e,_⟩:=(aW Jo.2).ex
 rw [e];exact .of_eq rfl
theorem walk {q:aN} {loose:List Str} {XP:(Str->Option Value)->Heap->Prop} {YP:World->Heap->Prop} {d:Ms} {K:Bb->bh} (hn:Dc.most=some 63) (hdf:d.params.defaults=[]) (hY:∀ (w:World) (h:Heap),YP w h->(K w.params).In h) (F:∀ (w:World) (mg:Str->Option Value) (fa:Addr) (h:Heap),(K w.params).In h->h.Ns fG mg->mg d.name=some (.ref fa)->RR w (K w.params) mg fa):Uu q loose XP YP Dc.row.toRowW d [] (fun f vs=>Lw f vs) :=
 L2.agz (n:=63) (k:=9) (x := "_law_script") (CX:=fun _=>CX0) (sp:=fun w=>afO (K w.params)) hn (by decide) hdf ⟨rfl,by decide,by decide⟩ hY F (fun _ _ a ns hl _ hS=>⟨a,ns,rfl,hS,hl,fun _=>rfl⟩) fun _ _ _ _ _ z=>z
end My
theorem PySem.Challenge.cw_sketchbounds_k43_whole_never_more_boxes_holds : PySem.Challenge.rw_sketchbounds_k43_whole_never_more_boxes.Holds := by
  exact My.head My.RR My.all_mk My.walk

